import Derived.Test.YtehmlpkapjdhkaaD18
import Derived.Test.YtehmlpkapjdhkaaD23
namespace Go.Proofs.Ytehmlpkapjdhkaa
set_option maxRecDepth 100000
open Go.RowKit

/-- append of one object onto a row of one's own, of whatever length. -/
theorem app_big (w : World) (base : Nat) (ty : TypeId) (v : Value) (n : Nat) (xs : List Value) (hown : w.ownsRow base 28 4 v n xs) (vb : Nat) (ys : Array Value) (hv : w.heap[vb]? = some (.cells ys 28)) (hys : ys.size = 4)
    (h2 : ∀ v ∈ ys.toList, v.oneCell' = true) (hn : (n + 1) * 56 ≤ 140737488355328) (hbase : base ≤ w.heap.size) :
    ∃ v' w', (Builtin.append_ #[22, 22] ty #[v, .slice (some ⟨vb, 0, none⟩) 1 1]).run Try.prog w = .ok v' w' ∧ w'.ownsRow base 28 4 v' (n + 1) (xs ++ ys.toList) ∧ w.grownBy w' v.ownBlock := by
  obtain ⟨i0, hi0, hz0, hzs, hzb⟩ := info_parts Try.info28
  have hl : ys.toList.length = 1 * 4 := by rw [Array.length_toList, hys]
  have hnews := World.news_of_block hv
  obtain ⟨v', w', hr, q1, q2, _⟩ := run_append_own (P := Try.prog) w base 22 ty 28 i0 _ 4 56 Try.underlying22 hi0 hz0 hzs hzb rfl (by omega) v n xs hown ⟨vb, 0, none⟩ 1 1 ys.toList hl hnews h2 (by unfold maxLen; omega) (by omega) hbase
  exact ⟨v', w', hr, q1, q2⟩

/-- what has been turned so far. -/
def Turned (w0 : World) (m : List Ob) (k : Nat) (v : Value) (wr : World) : Prop :=
  ∃ rs : List Pl, rs.length = k ∧ rs.map Pl.x = m.reverse.take k ∧ wr.ownsRow w0.heap.size 28 4 v k (rowC rs) ∧ (∀ r ∈ rs, Holds w0 r.sa r.x.links ∧ r.x.links.length ≤ 9223372036854775807) ∧ Below w0.heap.size w0 wr

theorem Turned.next {w0 : World} {m : List Ob} {k j : Nat} {v : Value} {wr : World} (h : Turned w0 m k v wr) (hj : j + 1 + k = m.length) (hm : m.length * 56 ≤ 140737488355328) (sa : Option Addr) (sc : Nat)
    (hh : Holds w0 sa (m[j]'(by omega)).links) (hx : (m[j]'(by omega)).links.length ≤ 9223372036854775807) (ty : TypeId) :
    ∃ v' w', (Builtin.append_ #[22, 22] ty #[v, .slice (some ⟨wr.heap.size, 0, none⟩) 1 1]).run Try.prog (wr.alloc (.cells #[.int .i64 (m[j]'(by omega)).id, .int .i64 (m[j]'(by omega)).kind, .slice sa (m[j]'(by omega)).links.length sc, .string (m[j]'(by omega)).text] 28)) = .ok v' w' ∧ Turned w0 m (k + 1) v' w' := by
  obtain ⟨rs, q1, q2, q3, q4, q5⟩ := h
  have hb := below_alloc wr (.cells #[.int .i64 (m[j]'(by omega)).id, .int .i64 (m[j]'(by omega)).kind, .slice sa (m[j]'(by omega)).links.length sc, .string (m[j]'(by omega)).text] 28)
  have q3' := q3.alloc (.cells #[.int .i64 (m[j]'(by omega)).id, .int .i64 (m[j]'(by omega)).kind, .slice sa (m[j]'(by omega)).links.length sc, .string (m[j]'(by omega)).text] 28)
  obtain ⟨v', w', r1, r2, r3⟩ := app_big _ w0.heap.size ty v k (rowC rs) q3' wr.heap.size _ (heap_alloc_new wr _) rfl (by intro u hu; simp only [List.mem_cons, List.not_mem_nil, or_false] at hu; rcases hu with rfl | rfl | rfl | rfl <;> rfl) (by omega) (Nat.le_trans q5.size hb.size)
  have B1 := q5.trans (hb.mono q5.size)
  have B2 : Below w0.heap.size (wr.alloc (.cells #[.int .i64 (m[j]'(by omega)).id, .int .i64 (m[j]'(by omega)).kind, .slice sa (m[j]'(by omega)).links.length sc, .string (m[j]'(by omega)).text] 28)) w' :=
    ⟨r3.os, r3.tape, r3.output, r3.size, fun b hb' => r3.block b (Nat.lt_of_lt_of_le hb' B1.size) (fun e => by have := (q3'.lt b e.symm).1; omega)⟩
  have hjm : j < m.length := by omega
  refine ⟨v', w', r1, rs ++ [(⟨m[j]'hjm, sa, sc⟩ : Pl)], by rw [List.length_append, q1, List.length_singleton], ?_, by rw [rowC_append]; exact r2, ?_, B1.trans B2⟩
  · rw [List.map_append, q2, List.take_succ_eq_append_getElem (by rw [List.length_reverse]; omega), List.getElem_reverse]
    simp only [List.map_cons, List.map_nil]
    congr 3
    first | done | omega
  · intro r hr
    rcases List.mem_append.1 hr with c | c
    · exact q4 r c
    · obtain rfl := List.mem_singleton.1 c
      exact ⟨hh, hx⟩

theorem Turned.reads {w0 : World} {m : List Ob} {v : Value} {wr : World} (h : Turned w0 m m.length v wr) : ∃ a c, v = .slice a m.reverse.length c ∧ HoldsS wr a m.reverse := by
  obtain ⟨rs, q1, q2, q3, q4, q5⟩ := h
  rw [List.take_of_length_le (by simp)] at q2
  obtain ⟨a, c, e, hS, _⟩ := own_reads (rs := rs) (by rw [q1]; exact q3) (fun r hr => ⟨(q4 r hr).1.below q5, (q4 r hr).2⟩)
  rw [q2] at e hS
  exact ⟨a, c, e, hS⟩

theorem holds_drop {w : World} {a : Option Addr} {l : List Ob} (h : HoldsS w a l) (n c : Nat) (hc : l.length ≤ c) : HoldsS w (if c = n then a else a.map (fun x => x.add (n * 4))) (l.drop n) := by
  intro i hi
  rw [List.length_drop] at hi
  obtain ⟨b, off, e, hb, hcc⟩ := h (n + i) (by omega)
  rw [if_neg (by omega)]
  refine ⟨b, off + n * 4, by rw [e]; show some ((⟨b, off, none⟩ : Addr).add (n * 4)) = _; congr 1; unfold Addr.add; split <;> simp_all, hb, fun j hj => ?_⟩
  rw [List.length_drop] at hj
  rw [List.getElem_drop, show off + n * 4 + j * 4 = off + (n + j) * 4 by omega]
  exact hcc (n + j) (by omega)
end Go.Proofs.Ytehmlpkapjdhkaa
