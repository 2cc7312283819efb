import Derived.Test.YtehmlpkapjdhkaaA13
import Derived.Deep.RegionHeld
namespace Go.Proofs.Ytehmlpkapjdhkaa
open Go.RowKit

theorem run_append_none (w : World) (ty : TypeId) (n cap0 : Nat) (g : Option Addr) (ad : Option Addr) (c : Nat) (hg : g = none → n = 0 ∧ cap0 = 0) (hn : n ≤ cap0) :
    (Builtin.append_ #[26, 26] ty #[.slice g n cap0, .slice ad 0 c]).run Try.prog w = .ok (.slice g n cap0) w := by
  obtain ⟨i0, hi, hz0, hz1, hz2⟩ := info_parts Try.info3
  cases g with
  | none =>
    obtain ⟨rfl, rfl⟩ := hg rfl
    cases ad <;> simp [Builtin.append_, run_underlying Try.underlying26, sizeOf, typeInfo, hi, Builtin.lenOf, Builtin.firstCells, loadCells, loadCellsFrom]
  | some g =>
    cases ad <;> simp [Builtin.append_, run_underlying Try.underlying26, sizeOf, typeInfo, hi, Builtin.lenOf, Builtin.firstCells, loadCells, loadCellsFrom, hn, storeCells]

/-- append of a slice of ints onto one that the call owns, however many. -/
theorem run_append_ints (w : World) (ty : TypeId) (base n : Nat) (v : Value) (xs : List Int) (hown : w.ownsRow base 3 1 v n (xs.map (Value.int .i64)))
    (ad : Option Addr) (m c : Nat) (L : List Int) (hm : L.length = m) (hh : Holds w ad L) (hn : n + m ≤ 1000) (hbase : base ≤ w.heap.size) :
    ∃ g' N cap' w', N = n + m ∧ (Builtin.append_ #[26, 26] ty #[v, .slice ad m c]).run Try.prog w = .ok (.slice g' N cap') w' ∧
      w'.ownsRow base 3 1 (.slice g' N cap') N ((xs ++ L).map (Value.int .i64)) ∧ w.grownBy w' v.ownBlock := by
  obtain ⟨i0, hi, hz0, hz1, hz2⟩ := info_parts Try.info3
  by_cases h0 : m = 0
  · subst h0
    have hL : L = [] := List.eq_nil_of_length_eq_zero hm
    subst hL
    have hgr : w.grownBy w v.ownBlock := ⟨rfl, rfl, rfl, Nat.le_refl _, fun _ _ _ => rfl⟩
    rcases hown.2 with ⟨rfl, rfl⟩ | ⟨g, cap, cur, rfl, hb, hg, hnc, hcm, hcs, htk⟩
    · exact ⟨none, 0, 0, w, rfl, run_append_none w ty 0 0 none ad c (by simp) (Nat.le_refl _), by simpa using hown, hgr⟩
    · exact ⟨_, n, cap, w, rfl, run_append_none w ty n cap _ ad c (by simp) hnc, by simpa using hown, hgr⟩
  · have hlen : 0 < L.length := by omega
    obtain ⟨b, off, rfl, hb, hc⟩ := hh 0 hlen
    obtain ⟨g, cap, w', hr, h1, h2, _, _⟩ := run_append_lies w 26 ty base 3 i0 (.int .i64 0) 1 8 Try.underlying26 hi hz0 hz1 hz2 rfl (by decide) v n _ hown ⟨b, off, none⟩ m c (L.map (Value.int .i64)) (by simp [hm])
      (fun j u hj => by
        have hj' : j < L.length := by
          rcases Nat.lt_or_ge j L.length with h | h
          · exact h
          · simp [List.getElem?_eq_none (show (L.map (Value.int .i64)).length ≤ j by simpa using h)] at hj
        have hadd : (⟨b, off, none⟩ : Addr).add j = ⟨b, off + j, none⟩ := by unfold Addr.add; split <;> simp_all
        rw [hadd, hc j hj']
        simp [List.getElem?_eq_getElem hj'] at hj
        subst hj
        simp [List.getElem?_eq_getElem hj'])
      (fun u hu => by simp at hu; obtain ⟨x, _, rfl⟩ := hu; rfl) (by omega) (by unfold maxLen; omega) (by omega) hbase _ rfl
    exact ⟨_, n + m, cap, w', rfl, hr, by simpa using h1, h2⟩

theorem step_append_ints {ops : Array Oper} {o : Oper} {a : Act} {K : Act → World → Prop} {Q : Exit → Act → World → Prop} {E : Prop} (w : World) (hgd : o.guard = none) (s x : Operand)
    (ho : o.op = .call { callee := .builtin .append, args := #[s, x], argTypes := #[26, 26] })
    (base n : Nat) (v : Value) (xs : List Int) (hs : a.eval s = v) (hown : w.ownsRow base 3 1 v n (xs.map (Value.int .i64)))
    (ad : Option Addr) (m c : Nat) (L : List Int) (hm : L.length = m) (hx : a.eval x = .slice ad m c) (hh : Holds w ad L) (hn : n + m ≤ 1000) (hbase : base ≤ w.heap.size)
    (h : ∀ g' N cap' w', N = n + m → w'.ownsRow base 3 1 (.slice g' N cap') N ((xs ++ L).map (Value.int .i64)) → w.grownBy w' v.ownBlock → K (a.put o.dst (.slice g' N cap')) w') :
    if Region.wanted o (yielded ops a.tmps) = true then Oper.wp Try.prog o a w K Q else E := by
  have hw : Region.wanted o (yielded ops a.tmps) = true := by simp [Region.wanted, hgd]
  rw [if_pos hw]
  obtain ⟨g', N, cap', w', hN, hr, h1, h2⟩ := run_append_ints w o.type base n v xs hown ad m c L hm hh hn hbase
  unfold Oper.wp execOp
  simp only [ho, resolve, invoke, builtin, Sem.run_bind, Sem.run_pure, Result.andThen_ok, List.map_toArray, List.map_cons, List.map_nil, hs, hx, hr]
  exact h g' N cap' w' hN h1 h2
end Go.Proofs.Ytehmlpkapjdhkaa
