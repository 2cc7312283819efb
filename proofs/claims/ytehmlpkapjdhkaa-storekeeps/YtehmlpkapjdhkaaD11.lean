import Derived.Test.YtehmlpkapjdhkaaD10
namespace Go.Proofs.Ytehmlpkapjdhkaa
open Go.RowKit

/-- 'append' where its run is known, at a step of a drawn region. -/
theorem step_append_run {ops : Array Oper} {o : Oper} {a : Act} {w : World} {K : Act → World → Prop} {Q : Exit → Act → World → Prop} {E : Prop} (hgd : o.guard = none) (d s : Operand)
    (ho : o.op = .call { callee := .builtin .append, args := #[d, s], argTypes := #[22, 22] }) (v u : Value) (hd : a.eval d = v) (hs : a.eval s = u) {v' : Value} {w' : World}
    (hr : (Builtin.append_ #[22, 22] o.type #[v, u]).run Try.prog w = .ok v' w') (h : K (a.put o.dst v') w') : if Region.wanted o (yielded ops a.tmps) = true then Oper.wp Try.prog o a w K Q else E := by
  have hw : Region.wanted o (yielded ops a.tmps) = true := by simp [Region.wanted, hgd]
  rw [if_pos hw]
  unfold Oper.wp execOp
  simp only [ho, resolve, invoke, builtin, Sem.run_bind, Sem.run_pure, Result.andThen_ok, List.map_toArray, List.map_cons, List.map_nil, hd, hs, hr]
  exact h

theorem own_slice {w : World} {base : Nat} {v : Value} {n : Nat} {xs : List Value} (h : w.ownsRow base 28 4 v n xs) : ∃ g m c, v = .slice g m c := by
  rcases h.2 with ⟨e, _⟩ | ⟨g, cap, _, e, _⟩
  · exact ⟨_, _, _, e⟩
  · exact ⟨_, _, _, e⟩
theorem Cells4.grown {B : Nat} {x0 x1 x2 x3 : Value} {w w' : World} {row : Option Nat} (h : Cells4 B x0 x1 x2 x3 w) (hg : w.grownBy w' row) (hn : row ≠ some B) : Cells4 B x0 x1 x2 x3 w' := by
  have e := hg.block B h.lt (Ne.symm hn)
  exact ⟨(World.cell?_of_block (a := ⟨B, 0, none⟩) e).trans h.c0, (World.cell?_of_block (a := ⟨B, 1, none⟩) e).trans h.c1, (World.cell?_of_block (a := ⟨B, 2, none⟩) e).trans h.c2, (World.cell?_of_block (a := ⟨B, 3, none⟩) e).trans h.c3,
    (World.frozen?_of_block (a := ⟨B, 0, none⟩) e).trans h.f0, (World.frozen?_of_block (a := ⟨B, 1, none⟩) e).trans h.f1, (World.frozen?_of_block (a := ⟨B, 2, none⟩) e).trans h.f2, (World.frozen?_of_block (a := ⟨B, 3, none⟩) e).trans h.f3, Nat.lt_of_lt_of_le h.lt hg.size⟩

theorem wpList_append_h {t : TypeId} {ops : Array Oper} {rest : List Oper} {o : Oper} {a : Act} {w : World} {Q : Exit → Act → World → Prop} (hgd : o.guard = none) (d s : Operand)
    (ho : o.op = .call { callee := .builtin .append, args := #[d, s], argTypes := #[t, t] }) (v u : Value) (hd : a.eval d = v) (hs : a.eval s = u) {v' : Value} {w' : World}
    (hr : (Builtin.append_ #[t, t] o.type #[v, u]).run Try.prog w = .ok v' w') (h : wpList Try.prog ops Q rest (a.put o.dst v') w') : wpList Try.prog ops Q (o :: rest) a w := by
  refine wpList_plain hgd fun K hK => ?_
  unfold Oper.wp execOp
  simp only [ho, resolve, invoke, builtin, Sem.run_bind, Sem.run_pure, Result.andThen_ok, List.map_toArray, List.map_cons, List.map_nil, hd, hs, hr]
  exact hK _ _ h

/-- a shelf out of objects of one's own. -/
theorem Objs.shelf {w : World} {z : Nat} {v : Value} {rs : List Pl} (h : Objs w z v rs) (hz : z ≤ w.heap.size) : Shelf (w.alloc (.cells #[v] 51)) z w.heap.size v rs :=
  ⟨hz, heap_alloc_new w _, fun e => by have := (h.own.lt _ e).2; omega, h.below (below_alloc _ _), fun r hr h0 b off e => by
    obtain ⟨b', off', e', _, hlt, _⟩ := (h.each r hr).2 h0
    rw [e] at e'
    cases e'
    omega⟩

set_option maxHeartbeats 1000000 in
theorem objects_any (a : Option Addr) (c : Nat) (l : List Ob) (w : World) (h : HoldsS w a l) (hl : l.length ≤ 1000) (hx : ∀ x ∈ l, x.links.length ≤ 1000) :
    Calls Try.prog 38 #[.slice a l.length c] w fun e w' => ∃ v rs, e = .returned v ∧ rs.map Pl.x = l ∧ Objs w' w.heap.size v rs ∧ Below w.heap.size w w' := by
  have S0 : Objs w w.heap.size (.slice none 0 0) [] := ⟨World.ownsRow_nil _ _ _ _, fun r hr => by cases hr⟩
  go_enter Try.func38, Try.ntmps38
  go_wp2
  go_loopw [3, 8] (fun o i wr => ∃ (k : Nat) (v : Value) (rs : List Pl), i = .int .i64 k ∧ o = v ∧ k ≤ l.length ∧ rs.map Pl.x = l.take k ∧ Objs wr w.heap.size v rs ∧ Below w.heap.size w wr) (fun _ i _ => l.length - (intOf i).toNat)
  case atStart => exact ⟨0, _, [], rfl, rfl, Nat.zero_le _, rfl, S0, Below.refl _ _⟩
  case round =>
    clear S0
    obtain ⟨k, v, rs, rfl, rfl, hk, hrs, SH, HB⟩ := hrel
    obtain ⟨g0, m0, c0, rfl⟩ := own_slice SH.own
    by_cases hlt : k < l.length
    · obtain ⟨b, off, rfl, hb, hc⟩ := h k hlt
      have hO := (hc k hlt).below HB hb
      clear hc
      obtain ⟨sa, sc, y0, y1, y2, y3, y4, y5⟩ := hO
      have hA := below_alloc wr (.cells #[.int .i64 l[k].id, .int .i64 l[k].kind, .slice sa l[k].links.length sc, .string l[k].text] 28)
      have SA := SH.below hA
      have C := Cells4.new wr (.int .i64 l[k].id) (.int .i64 l[k].kind) (.slice sa l[k].links.length sc) (.string l[k].text) 28
      have hH := y4.below hA
      have hxl := hx l[k] (List.getElem_mem hlt)
      have HBA := HB.trans (hA.mono HB.size)
      go_wp2_with fail
      generalize wr.alloc (.cells #[.int .i64 l[k].id, .int .i64 l[k].kind, .slice sa l[k].links.length sc, .string l[k].text] 28) = W at *
      clear y0 y1 y2 y3 y4 hA HB SH
      refine (copyOf_any l[k] sa sc W hH hxl).mono ?_
      rintro e W1 ⟨ta, tc, rfl, hta, hb1, hfr, htc⟩
      have hb2 := below_alloc W1 (.cells #[.int .i64 l[k].id, .int .i64 l[k].kind, .slice ta l[k].links.length tc, .string l[k].text] 28)
      have hv2 := heap_alloc_new W1 (.cells #[.int .i64 l[k].id, .int .i64 l[k].kind, .slice ta l[k].links.length tc, .string l[k].text] 28)
      have SH2 := (SA.below hb1).below hb2
      have hrl : rs.length = k := by have := congrArg List.length hrs; rw [List.length_map, List.length_take] at this; omega
      have hwz := Nat.le_trans HBA.size (Nat.le_trans hb1.size hb2.size)
      obtain ⟨v', W3, hr3, ho3, hg3, hf3⟩ := app_own _ w.heap.size 22 _ rs.length (rowC rs) SH2.own W1.heap.size _ hv2 rfl (by intro u hu; simp only [List.mem_cons, List.not_mem_nil, or_false] at hu; rcases hu with rfl | rfl | rfl | rfl <;> rfl) (by omega) hwz
      obtain ⟨g', m', c', rfl⟩ := own_slice ho3
      have NX := SA.next (rs' := rs ++ [⟨l[k], ta, tc⟩]) (r := ⟨l[k], ta, tc⟩) HBA.size (hb1.trans (hb2.mono hb1.size)) hg3 (by rw [List.length_append, rowC_append]; exact ho3) hf3 (by intro s hs; rcases List.mem_append.1 hs with q | q; exact .inl q; exact .inr (List.mem_singleton.1 q)) ⟨hxl, htc⟩ (hta.below hb2) hfr
      have hBB := HBA.trans (NX.2.mono (Nat.le_refl _))
      have hM : (rs ++ [(⟨l[k], ta, tc⟩ : Pl)]).map Pl.x = l.take (k + 1) := by rw [List.map_append, hrs, List.take_succ_eq_append_getElem hlt]; rfl
      have HN : Hid (_ ∧ _ ∧ _) := ⟨hM, NX.1, hBB⟩
      clear NX hBB hM hf3 hg3 ho3 SH2 hv2 hb2 hb1 hta hfr htc SA C HBA hH hwz
      go_wp2_with (at_builtin; refine wpList_append_h (by rfl) (.tmp 12) (.tmp 15) (by rfl) _ _ (by rfl) (by rfl) hr3 ?_)
      go_roundw
      case rel => exact ⟨k + 1, _, _, by go_num, rfl, by omega, HN.out.1, HN.out.2.1, HN.out.2.2⟩
      case measure => simp [intOf]; omega
    · have hM : rs.map Pl.x = l := by rw [hrs, List.take_of_length_le (by omega)]
      have HN : Hid (_ ∧ _ ∧ _) := ⟨hM, SH, HB⟩
      clear hM SH HB hrs
      go_wp2
      go_ret
      exact ⟨_, rs, rfl, HN.out.1, HN.out.2.1, HN.out.2.2⟩

set_option maxHeartbeats 400000 in
theorem newShelf_any (a : Option Addr) (c : Nat) (l : List Ob) (w : World) (h : HoldsS w a l) (hl : l.length ≤ 1000) (hx : ∀ x ∈ l, x.links.length ≤ 1000) :
    Calls Try.prog 25 #[.slice a l.length c] w fun e w' => ∃ p v rs, e = .returned (.pointer (some ⟨p, 0, none⟩)) ∧ rs.map Pl.x = l ∧ Shelf w' w.heap.size p v rs ∧ Below w.heap.size w w' := by
  go_enter Try.func25, Try.ntmps25
  go_wp2_with fail
  refine (objects_any a c l w h hl hx).mono ?_
  rintro e w1 ⟨v, rs, rfl, hrs, O1, hb1⟩
  obtain ⟨g', m', c', rfl⟩ := own_slice O1.own
  have SH : Hid (_ ∧ _) := ⟨O1.shelf hb1.size, hb1.trans ((below_alloc w1 (.cells #[.slice g' m' c'] 51)).mono hb1.size)⟩
  clear O1 hb1
  go_wp2
  go_ret
  exact ⟨_, _, rs, rfl, hrs, SH.out.1, SH.out.2⟩
end Go.Proofs.Ytehmlpkapjdhkaa
