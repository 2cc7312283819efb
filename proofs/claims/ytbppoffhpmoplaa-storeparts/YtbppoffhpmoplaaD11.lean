import Derived.Test.YtbppoffhpmoplaaD10
namespace Go.Proofs.Ytbppoffhpmoplaa
open Go.RowKit

/-- 'append' where its run is known, at a step of a drawn region. -/
theorem step_append_run {ops : Array Oper} {o : Oper} {a : Act} {w : World} {K : Act → World → Prop} {Q : Exit → Act → World → Prop} {E : Prop} (hgd : o.guard = none) (d s : Operand)
    (ho : o.op = .call { callee := .builtin .append, args := #[d, s], argTypes := #[36, 36] }) (v u : Value) (hd : a.eval d = v) (hs : a.eval s = u) {v' : Value} {w' : World}
    (hr : (Builtin.append_ #[36, 36] o.type #[v, u]).run Try.prog w = .ok v' w') (h : K (a.put o.dst v') w') : if Region.wanted o (yielded ops a.tmps) = true then Oper.wp Try.prog o a w K Q else E := by
  have hw : Region.wanted o (yielded ops a.tmps) = true := by simp [Region.wanted, hgd]
  rw [if_pos hw]
  unfold Oper.wp execOp
  simp only [ho, resolve, invoke, builtin, Sem.run_bind, Sem.run_pure, Result.andThen_ok, List.map_toArray, List.map_cons, List.map_nil, hd, hs, hr]
  exact h

theorem own_slice {w : World} {base : Nat} {v : Value} {n : Nat} {xs : List Value} (h : w.ownsRow base 24 4 v n xs) : ∃ g m c, v = .slice g m c := by
  rcases h.2 with ⟨e, _⟩ | ⟨g, cap, _, e, _⟩
  · exact ⟨_, _, _, e⟩
  · exact ⟨_, _, _, e⟩
theorem Cells4.grown {B : Nat} {x0 x1 x2 x3 : Value} {w w' : World} {row : Option Nat} (h : Cells4 B x0 x1 x2 x3 w) (hg : w.grownBy w' row) (hn : row ≠ some B) : Cells4 B x0 x1 x2 x3 w' := by
  have e := hg.block B h.lt (Ne.symm hn)
  exact ⟨(World.cell?_of_block (a := ⟨B, 0, none⟩) e).trans h.c0, (World.cell?_of_block (a := ⟨B, 1, none⟩) e).trans h.c1, (World.cell?_of_block (a := ⟨B, 2, none⟩) e).trans h.c2, (World.cell?_of_block (a := ⟨B, 3, none⟩) e).trans h.c3,
    (World.frozen?_of_block (a := ⟨B, 0, none⟩) e).trans h.f0, (World.frozen?_of_block (a := ⟨B, 1, none⟩) e).trans h.f1, (World.frozen?_of_block (a := ⟨B, 2, none⟩) e).trans h.f2, (World.frozen?_of_block (a := ⟨B, 3, none⟩) e).trans h.f3, Nat.lt_of_lt_of_le h.lt hg.size⟩

set_option maxHeartbeats 1000000 in
theorem newShelf_any (a : Option Addr) (c : Nat) (l : List Ob) (w : World) (h : HoldsS w a l) (hl : l.length ≤ 1000) (hx : ∀ x ∈ l, x.links.length ≤ 1000) :
    Calls Try.prog 38 #[.slice a l.length c] w fun e w' => ∃ p v rs, e = .returned (.pointer (some ⟨p, 0, none⟩)) ∧ rs.map Pl.x = l ∧ Shelf w' p v rs ∧ w.heap.size ≤ p ∧ Below w.heap.size w w' := by
  have S0 : Shelf (w.alloc (.cells #[.slice none 0 0] 69)) w.heap.size (.slice none 0 0) [] := ⟨heap_alloc_new w _, World.ownsRow_nil _ _ _ _, fun r hr => by cases hr⟩
  go_enter Try.func38, Try.ntmps38
  go_wp2
  go_loopw [10] (fun i wr => ∃ (k : Nat) (v : Value) (rs : List Pl), i = .int .i64 k ∧ k ≤ l.length ∧ rs.map Pl.x = l.take k ∧ Shelf wr w.heap.size v rs ∧ Below w.heap.size w wr) (fun i _ => l.length - (intOf i).toNat)
  case atStart => exact ⟨0, _, [], rfl, Nat.zero_le _, rfl, S0, below_alloc _ _⟩
  case round =>
    clear S0
    obtain ⟨k, v, rs, rfl, hk, hrs, SH, HB⟩ := hrel
    by_cases hlt : k < l.length
    · obtain ⟨b, off, rfl, hb, hc⟩ := h k hlt
      have hO := (hc k hlt).below HB hb
      clear hc
      obtain ⟨sa, sc, y0, y1, y2, y3, y4, y5⟩ := hO
      have hA := below_alloc wr (.cells #[.int .i64 l[k].id, .int .i64 l[k].kind, .slice sa l[k].links.length sc, .string l[k].text] 24)
      have SA := SH.below hA
      have C := Cells4.new wr (.int .i64 l[k].id) (.int .i64 l[k].kind) (.slice sa l[k].links.length sc) (.string l[k].text) 24
      have hH := y4.below hA
      have hxl := hx l[k] (List.getElem_mem hlt)
      have HBA := HB.trans (hA.mono HB.size)
      go_wp2_with fail
      generalize wr.alloc (.cells #[.int .i64 l[k].id, .int .i64 l[k].kind, .slice sa l[k].links.length sc, .string l[k].text] 24) = W at *
      clear y0 y1 y2 y3 y4 hA HB
      obtain ⟨B, hB⟩ : ∃ B, B = wr.heap.size := ⟨_, rfl⟩
      rw [← hB] at C ⊢
      have hgB : ∀ g, v.ownBlock = some g → g < B := fun g e => by rw [hB]; exact (SH.own.lt g e).2
      clear hB SH
      have SD := SA.below (Below.refl W.heap.size W).drew
      have hHD := hH.below (Below.refl W.heap.size W).drew
      have CD := C.below (Below.refl W.heap.size W).drew C.lt
      have HBD := HBA.trans ((Below.refl W.heap.size W).drew.mono HBA.size)
      clear SA hH C HBA
      refine wp_region_E (fun W => W.cell? ⟨w.heap.size, 0, none⟩ = some v ∧ Cells4 B (.int .i64 l[k].id) (.int .i64 l[k].kind) (.slice sa l[k].links.length sc) (.string l[k].text) W) (fun k => k == 11) (by kernel_rfl) ⟨SD.cell, CD⟩ (fun hS => ?_)
      refine wpAnyE.take (i := 0) (v := ?_) rfl (by kernel_rfl) (by kernel_rfl) (by kernel_rfl) (by kernel_rfl) (fun _ _ _ h => h) (Or.inl ⟨by rfl, ?_⟩) (by assumption) ?_
      rotate_left
      · intro w hSw; obtain ⟨z, zb⟩ := hSw; have z0 := zb.c0; have z1 := zb.c1; have z2 := zb.c2; have z3 := zb.c3; clear zb; go_simp; with_reducible rfl
      try simp only [Act.put, List.getElem_toArray, List.getElem_cons_zero, List.setIfInBounds_toArray, List.set_cons_zero, List.set_cons_succ]
      refine wpAnyE.take (i := 1) (v := ?_) rfl (by kernel_rfl) (by kernel_rfl) (by kernel_rfl) (by kernel_rfl) (fun _ _ _ h => h) (Or.inl ⟨by rfl, ?_⟩) (by assumption) ?_
      rotate_left
      · intro w hSw; obtain ⟨z, zb⟩ := hSw; have z0 := zb.c0; have z1 := zb.c1; have z2 := zb.c2; have z3 := zb.c3; clear zb; go_simp; with_reducible rfl
      try simp only [Act.put, List.getElem_toArray, List.getElem_cons_succ, List.getElem_cons_zero, List.setIfInBounds_toArray, List.set_cons_zero, List.set_cons_succ]
      refine wpAnyE.take (i := 2) (v := ?_) rfl (by kernel_rfl) (by kernel_rfl) (by kernel_rfl) (by kernel_rfl) (fun _ _ _ h => h) (Or.inl ⟨by rfl, ?_⟩) (by assumption) ?_
      rotate_left
      · intro w hSw; obtain ⟨z, zb⟩ := hSw; have z0 := zb.c0; have z1 := zb.c1; have z2 := zb.c2; have z3 := zb.c3; clear zb; go_simp; with_reducible rfl
      try simp only [Act.put, List.getElem_toArray, List.getElem_cons_succ, List.getElem_cons_zero, List.setIfInBounds_toArray, List.set_cons_zero, List.set_cons_succ]
      refine wpAnyE.take (i := 3) (v := ?_) rfl (by kernel_rfl) (by kernel_rfl) (by kernel_rfl) (by kernel_rfl) (fun _ _ _ h => h) (Or.inl ⟨by rfl, ?_⟩) (by assumption) ?_
      rotate_left
      · intro w hSw; obtain ⟨z, zb⟩ := hSw; have z0 := zb.c0; have z1 := zb.c1; have z2 := zb.c2; have z3 := zb.c3; clear zb; go_simp; with_reducible rfl
      try simp only [Act.put, List.getElem_toArray, List.getElem_cons_succ, List.getElem_cons_zero, List.setIfInBounds_toArray, List.set_cons_zero, List.set_cons_succ]
      refine wpAnyE.take (i := 4) (v := ?_) rfl (by kernel_rfl) (by kernel_rfl) (by kernel_rfl) (by kernel_rfl) (fun _ _ _ h => h) (Or.inl ⟨by rfl, ?_⟩) (by assumption) ?_
      rotate_left
      · intro w hSw; obtain ⟨z, zb⟩ := hSw; have z0 := zb.c0; have z1 := zb.c1; have z2 := zb.c2; have z3 := zb.c3; clear zb; go_simp; with_reducible rfl
      try simp only [Act.put, List.getElem_toArray, List.getElem_cons_succ, List.getElem_cons_zero, List.setIfInBounds_toArray, List.set_cons_zero, List.set_cons_succ]
      refine wpAnyE.take (i := 5) (v := ?_) rfl (by kernel_rfl) (by kernel_rfl) (by kernel_rfl) (by kernel_rfl) (fun _ _ _ h => h) (Or.inl ⟨by rfl, ?_⟩) (by assumption) ?_
      rotate_left
      · intro w hSw; obtain ⟨z, zb⟩ := hSw; have z0 := zb.c0; have z1 := zb.c1; have z2 := zb.c2; have z3 := zb.c3; clear zb; go_simp; with_reducible rfl
      try simp only [Act.put, List.getElem_toArray, List.getElem_cons_succ, List.getElem_cons_zero, List.setIfInBounds_toArray, List.set_cons_zero, List.set_cons_succ]
      generalize W.drew = W0 at *
      refine wpAnyE.one (i := 6) (by kernel_rfl) rfl (fun K hK => ?_)
      go_simp
      refine (copyOf_any l[k] sa sc W0 hHD hxl).mono ?_
      rintro e W1 ⟨ta, tc, rfl, hta, hb1, hfr, -⟩
      have hS1 : W1.cell? ⟨w.heap.size, 0, none⟩ = some v ∧ Cells4 B (.int .i64 l[k].id) (.int .i64 l[k].kind) (.slice sa l[k].links.length sc) (.string l[k].text) W1 := ⟨(SD.below hb1).cell, CD.below hb1 CD.lt⟩
      refine hK _ _ (fun _ => hS1) ?_
      clear hK K hS
      try simp only [Act.put, List.getElem_toArray, List.getElem_cons_succ, List.getElem_cons_zero, List.setIfInBounds_toArray, List.set_cons_zero, List.set_cons_succ]
      refine wpAnyE.one (i := 7) (by kernel_rfl) rfl (fun K hK => ?_)
      go_simp
      obtain ⟨W2, hW2⟩ : ∃ W2, W2 = W1.alloc (.cells #[.int .i64 l[k].id, .int .i64 l[k].kind, .slice ta l[k].links.length tc, .string l[k].text] 24) := ⟨_, rfl⟩
      have hb2 : Below W1.heap.size W1 W2 := by rw [hW2]; exact below_alloc _ _
      have hv2 : W2.heap[W1.heap.size]? = some (.cells #[.int .i64 l[k].id, .int .i64 l[k].kind, .slice ta l[k].links.length tc, .string l[k].text] 24) := by rw [hW2]; exact heap_alloc_new W1 _
      rw [← hW2]
      clear hW2
      have hS2 : W2.cell? ⟨w.heap.size, 0, none⟩ = some v ∧ Cells4 B (.int .i64 l[k].id) (.int .i64 l[k].kind) (.slice sa l[k].links.length sc) (.string l[k].text) W2 := ⟨((SD.below hb1).below hb2).cell, hS1.2.below hb2 hS1.2.lt⟩
      refine hK _ _ (fun _ => hS2) ?_
      clear hK K hS1
      try simp only [Act.put, List.getElem_toArray, List.getElem_cons_succ, List.getElem_cons_zero, List.setIfInBounds_toArray, List.set_cons_zero, List.set_cons_succ]
      refine wpAnyE.one (i := 8) (by kernel_rfl) rfl (fun K hK => ?_)
      have SH2 := (SD.below hb1).below hb2
      have hrl : rs.length = k := by have := congrArg List.length hrs; rw [List.length_map, List.length_take] at this; omega
      obtain ⟨v', W3, hr3, ho3, hg3, hf3⟩ := app_own W2 (w.heap.size + 1) 36 v rs.length (rowC rs) SH2.own W1.heap.size _ hv2 rfl (by intro u hu; simp only [List.mem_cons, List.not_mem_nil, or_false] at hu; rcases hu with rfl | rfl | rfl | rfl <;> rfl) (by omega) (by have := SH2.lt; omega)
      obtain ⟨g', m', c', rfl⟩ := own_slice ho3
      refine step_append_run (by rfl) (.tmp 18) (.tmp 21) (by rfl) _ _ (by rfl) (by rfl) hr3 ?_
      have hne3 : some w.heap.size ≠ v.ownBlock := fun e => by have := (SH2.own.lt _ e.symm).1; omega
      have hp3 := (hg3.block _ SH2.lt hne3).trans SH2.blk
      have hc3 : W3.cell? ⟨w.heap.size, 0, none⟩ = some v := by simp [World.cell?, hp3]
      have hz3 : W3.frozen? ⟨w.heap.size, 0, none⟩ = false := by simp [World.frozen?, hp3]
      have hS3 : W3.cell? ⟨w.heap.size, 0, none⟩ = some v ∧ Cells4 B (.int .i64 l[k].id) (.int .i64 l[k].kind) (.slice sa l[k].links.length sc) (.string l[k].text) W3 := ⟨hc3, hS2.2.grown hg3 (fun e => by have := hgB B e; omega)⟩
      refine hK _ _ (fun _ => hS3) ?_
      clear hK K hS2 hr3
      try simp only [Act.put, List.getElem_toArray, List.getElem_cons_succ, List.getElem_cons_zero, List.setIfInBounds_toArray, List.set_cons_zero, List.set_cons_succ]
      refine wpAnyE.one (i := 9) (by kernel_rfl) rfl (fun K hK => ?_)
      go_simp
      refine hK _ _ (fun _ => hS3) ?_
      clear hK K
      try simp only [Act.put, List.getElem_toArray, List.getElem_cons_succ, List.getElem_cons_zero, List.setIfInBounds_toArray, List.set_cons_zero, List.set_cons_succ]
      refine wpAnyE.one (i := 10) (by kernel_rfl) rfl (fun K hK => ?_)
      go_simp
      refine hK _ _ (fun _ => hS3) ?_
      clear hK K
      try simp only [Act.put, List.getElem_toArray, List.getElem_cons_succ, List.getElem_cons_zero, List.setIfInBounds_toArray, List.set_cons_zero, List.set_cons_succ]
      clear hS3
      refine wpAnyE.one (i := 11) (by kernel_rfl) rfl (fun K hK => ?_)
      go_simp
      refine hK _ _ (fun h => by cases h) ?_
      clear hK K
      try simp only [Act.put, List.getElem_toArray, List.getElem_cons_succ, List.getElem_cons_zero, List.setIfInBounds_toArray, List.set_cons_zero, List.set_cons_succ]
      refine wpAnyE.done (by kernel_rfl) ?_
      have NX := SD.next (rs' := rs ++ [⟨l[k], ta, tc⟩]) (r := ⟨l[k], ta, tc⟩) (w1 := W2) (hb1.trans (hb2.mono hb1.size)) hg3 (by rw [List.length_append, rowC_append]; exact ho3) hf3 (by intro s hs; rcases List.mem_append.1 hs with q | q; exact .inl q; exact .inr (List.mem_singleton.1 q)) hxl (hta.below hb2) hfr
      have hBB := HBD.trans (NX.2.mono (Nat.le_refl _))
      have hM : (rs ++ [(⟨l[k], ta, tc⟩ : Pl)]).map Pl.x = l.take (k + 1) := by rw [List.map_append, hrs, List.take_succ_eq_append_getElem hlt]; rfl
      have HN : Hid (_ ∧ _ ∧ _) := ⟨hM, NX.1, hBB⟩
      clear NX hBB hM hf3 hg3 ho3 hne3 hp3 hc3 hz3 SH2 hv2 hb2 hb1 hta hfr SD CD HBD hHD
      generalize W3.setCell ⟨w.heap.size, 0, none⟩ (.slice g' m' c') = W4 at *
      go_wp2
      go_roundw
      case rel => exact ⟨k + 1, _, _, by go_num, by omega, HN.out.1, HN.out.2.1, HN.out.2.2⟩
      case measure => simp [intOf]; omega
    · have hM : rs.map Pl.x = l := by rw [hrs, List.take_of_length_le (by omega)]
      have HN : Hid (_ ∧ _ ∧ _) := ⟨hM, SH, HB⟩
      clear hM SH HB hrs
      go_wp2
      go_ret
      exact ⟨_, v, rs, rfl, HN.out.1, HN.out.2.1, Nat.le_refl _, HN.out.2.2⟩
end Go.Proofs.Ytbppoffhpmoplaa
