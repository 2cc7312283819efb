import Derived.Test.YtehmlpkapjdhkaaD6
namespace Go.Proofs.Ytehmlpkapjdhkaa
open Go.RowKit

theorem wpList_append_run {ops : Array Oper} {rest : List Oper} {o : Oper} {a : Act} {w : World} {Q : Exit → Act → World → Prop} (hgd : o.guard = none) (d s : Operand)
    (ho : o.op = .call { callee := .builtin .append, args := #[d, s], argTypes := #[22, 3] }) (v u : Value) (hd : a.eval d = v) (hs : a.eval s = u) {v' : Value} {w' : World}
    (hr : (Builtin.append_ #[22, 3] o.type #[v, u]).run Try.prog w = .ok v' w') (h : wpList Try.prog ops Q rest (a.put o.dst v') w') : wpList Try.prog ops Q (o :: rest) a w := by
  refine wpList_plain hgd fun K hK => ?_
  unfold Oper.wp execOp
  simp only [ho, resolve, invoke, builtin, Sem.run_bind, Sem.run_pure, Result.andThen_ok, List.map_toArray, List.map_cons, List.map_nil, hd, hs, hr]
  exact hK _ _ h

theorem grow_list (X Y R0 : List Value) (i n : Nat) (hX : n * 4 ≤ X.length) (hi : i < n) (hY : Y.length = 4) (hR : (n + 1) * 4 ≤ R0.length) (hR0 : R0.take (i * 4) = X.take (i * 4)) :
    let Z := (X.drop (i * 4)).take ((n - i) * 4)
    let R1 := R0.take (i * 4) ++ Y ++ R0.drop (i * 4 + Y.length)
    let R2 := R1.take ((i + 1) * 4) ++ Z ++ R1.drop ((i + 1) * 4 + Z.length)
    R2.take ((n + 1) * 4) = X.take (i * 4) ++ Y ++ Z ∧ R2.length = R0.length ∧ R1.length = R0.length := by
  intro Z R1 R2
  have hZ : Z.length = (n - i) * 4 := by show ((X.drop (i * 4)).take ((n - i) * 4)).length = _; rw [List.length_take, List.length_drop]; omega
  have hT : (X.take (i * 4)).length = i * 4 := by rw [List.length_take]; omega
  have h1 : R1.length = R0.length := by
    show (R0.take (i * 4) ++ Y ++ R0.drop (i * 4 + Y.length)).length = _
    simp only [List.length_append, List.length_take, List.length_drop]; omega
  have e1 : R1.take ((i + 1) * 4) = X.take (i * 4) ++ Y := by
    show (R0.take (i * 4) ++ Y ++ R0.drop (i * 4 + Y.length)).take ((i + 1) * 4) = _
    rw [hR0, show (i + 1) * 4 = (X.take (i * 4) ++ Y).length by rw [List.length_append]; omega, List.take_left]
  refine ⟨?_, ?_, h1⟩
  · show (R1.take ((i + 1) * 4) ++ Z ++ R1.drop ((i + 1) * 4 + Z.length)).take ((n + 1) * 4) = _
    rw [e1, show (n + 1) * 4 = (X.take (i * 4) ++ Y ++ Z).length by simp only [List.length_append]; omega, List.take_left]
  · show (R1.take ((i + 1) * 4) ++ Z ++ R1.drop ((i + 1) * 4 + Z.length)).length = _
    rw [e1]
    simp only [List.length_append, List.length_drop]; omega

set_option maxHeartbeats 800000 in
set_option maxRecDepth 100000 in
theorem insert_grow (g n cap i vb : Nat) (cur : Array Value) (ys : Array Value) (w : World) (hi : i < n) (hnc : n ≤ cap) (hroom : cap < n + 1) (hn : n ≤ 1000)
    (hg : w.heap[g]? = some (.cells cur 28 (0, 0))) (hcs : cur.size = cap * 4) (hv : w.heap[vb]? = some (.cells ys 28)) (hys : ys.size = 4)
    (h1 : ∀ v ∈ cur.toList.take (n * 4), v.oneCell' = true) (h2 : ∀ v ∈ ys.toList, v.oneCell' = true) :
    Calls Try.prog 40 #[.slice (some ⟨g, 0, none⟩) n cap, .int .i64 i, .slice (some ⟨vb, 0, none⟩) 1 1] w fun e w' => ∃ H G,
      e = .returned (.slice (some ⟨H, 0, none⟩) (n + 1) G) ∧ w.grownBy w' none ∧ w.heap.size ≤ H ∧ n + 1 ≤ G ∧ G ≤ maxLen ∧ ∃ cur', w'.heap[H]? = some (.cells cur' 28 (0, 0)) ∧ cur'.size = G * 4 ∧ cur'.toList.take ((n + 1) * 4) = cur.toList.take (i * 4) ++ ys.toList ++ (cur.toList.drop (i * 4)).take ((n - i) * 4) := by
  obtain ⟨i0, hi0, hz0, hzs, hzb⟩ := info_parts Try.info28
  have hgw : g < w.heap.size := by
    rcases Nat.lt_or_ge g w.heap.size with h | h
    · exact h
    · rw [Array.getElem?_eq_none h] at hg; cases hg
  have hvw : vb < w.heap.size := by
    rcases Nat.lt_or_ge vb w.heap.size with h | h
    · exact h
    · rw [Array.getElem?_eq_none h] at hv; cases hv
  have hold : (Builtin.firstCells i0.size i (.slice (some ⟨g, 0, none⟩) i cap)).run Try.prog w.drew = .ok (cur.toList.take (i * 4)).toArray w.drew := by
    rw [hzs]
    exact run_firstCells_some w.drew 4 i ⟨g, 0, none⟩ i cap (cur.toList.take (i * 4)) (by rw [List.length_take, Array.length_toList]; omega) (fun j v hj => by
      have hadd : (⟨g, 0, none⟩ : Addr).add j = ⟨g, 0 + j, none⟩ := by unfold Addr.add; split <;> simp_all
      rw [hadd, cell_of_row w.drew g _ _ _ _ hg, Nat.zero_add]
      rw [List.getElem?_take] at hj
      split at hj
      · simpa using hj
      · cases hj)
  have hik : i + (n + 1 - i) = n + 1 := by omega
  have hrz : ∀ ty, (Builtin.append_ #[22, 3] ty #[.slice (some ⟨g, 0, none⟩) i cap, .int .i64 ((n : Int) + 1 - (i : Int))]).run Try.prog w =
      .ok (.slice (some ⟨w.heap.size, 0, none⟩) (n + 1) (grownCap w (n + 1) cap 28)) (w.drew.alloc (.cells ((cur.toList.take (i * 4)).toArray ++ Builtin.zeroCells (.agg #[.int .i64 0, .int .i64 0, .slice none 0 0, .string { data := #[] }] : Value).cells (n + 1 - i) ++ Builtin.zeroCells (.agg #[.int .i64 0, .int .i64 0, .slice none 0 0, .string { data := #[] }] : Value).cells (grownCap w (n + 1) cap 28 - (n + 1))) 28)) := fun ty => by
    have h := Lib.run_append_grow_zeros w 22 3 ty 28 i0 _ .i64 .i64 Try.underlying22 Try.underlying3 hi0 hz0 (some ⟨g, 0, none⟩) i cap (cur.toList.take (i * 4)) hold (n + 1 - i) (by omega) (by omega) (by omega) (by omega) (by rw [hzb]; omega) (by rw [hzb, hik]; exact growslice_fits hroom (by omega))
    rw [hik] at h
    rw [show (n : Int) + 1 - (i : Int) = ((n + 1 - i : Nat) : Int) by omega]
    exact h
  obtain ⟨G, hG⟩ : ∃ G, G = grownCap w (n + 1) cap 28 := ⟨_, rfl⟩
  have hG1 : n + 1 ≤ G := by rw [hG]; exact grownCap_ge w _ _ _
  have hG2 : G ≤ maxLen := by rw [hG]; exact grownCap_le_maxLen w (n + 1) cap 28 (by unfold maxLen; omega)
  rw [← hG] at hrz
  clear hG
  obtain ⟨R0, hR0⟩ : ∃ R0 : Array Value, R0 = (cur.toList.take (i * 4)).toArray ++ Builtin.zeroCells (.agg #[.int .i64 0, .int .i64 0, .slice none 0 0, .string { data := #[] }] : Value).cells (n + 1 - i) ++ Builtin.zeroCells (.agg #[.int .i64 0, .int .i64 0, .slice none 0 0, .string { data := #[] }] : Value).cells (G - (n + 1)) := ⟨_, rfl⟩
  rw [← hR0] at hrz
  have hTl : (cur.toList.take (i * 4)).length = i * 4 := by rw [List.length_take, Array.length_toList]; omega
  have hz4 : ((.agg #[.int .i64 0, .int .i64 0, .slice none 0 0, .string { data := #[] }] : Value).cells).size = 4 := rfl
  have hRs : R0.size = G * 4 := by
    rw [hR0]
    simp only [Array.size_append, List.size_toArray, hTl, size_zeroCells, hz4]; omega
  have hRt : R0.toList.take (i * 4) = cur.toList.take (i * 4) := by
    rw [hR0]
    simp only [Array.toList_append, List.append_assoc]
    rw [List.take_append_of_le_length (by omega), List.take_take]; congr 1; omega
  obtain ⟨W1, hW1⟩ : ∃ W1, W1 = w.drew.alloc (.cells R0 28) := ⟨_, rfl⟩
  rw [← hW1] at hrz
  have hH1 : W1.heap[w.heap.size]? = some (.cells R0 28 (0, 0)) := by rw [hW1]; exact heap_alloc_new w.drew _
  have hg1 : W1.heap[g]? = some (.cells cur 28 (0, 0)) := by rw [hW1]; exact (heap_alloc_old w.drew _ hgw).trans hg
  have hv1 : W1.heap[vb]? = some (.cells ys 28) := by rw [hW1]; exact (heap_alloc_old w.drew _ hvw).trans hv
  have hGB1 : w.grownBy W1 none := by
    rw [hW1]; exact ⟨rfl, rfl, rfl, by simp [World.alloc], fun k hk _ => heap_alloc_old w.drew _ hk⟩
  obtain ⟨H, hH⟩ : ∃ H, H = w.heap.size := ⟨_, rfl⟩
  rw [← hH] at hrz hH1 hgw hvw
  clear hW1 hR0 hold hik
  have hcp1 : (Builtin.copy_ #[22, 22] 3 #[.slice (some ⟨H, i * 4, none⟩) (n + 1 - i) (G - i), .slice (some ⟨vb, 0, none⟩) 1 1]).run Try.prog W1 = .ok (goInt (Nat.min 1 (n + 1 - i))) (W1.setRow H (R0.toList.take (i * 4) ++ ys.toList ++ R0.toList.drop (i * 4 + ys.toList.length)).toArray) := by
    refine run_copy4 _ 3 H (i * 4) (n + 1 - i) (G - i) ⟨vb, 0, none⟩ 1 1 R0 28 ys.toList hH1 ?_ ?_ ?_ h2
    · have : Nat.min 1 (n + 1 - i) = 1 := by simp only [Nat.min_def]; split <;> omega
      rw [this, Array.length_toList, hys]
    · exact World.news_of_block hv1
    · simp only [Array.length_toList]; omega
  obtain ⟨R1, hR1⟩ : ∃ R1, R1 = R0.toList.take (i * 4) ++ ys.toList ++ R0.toList.drop (i * 4 + ys.toList.length) := ⟨_, rfl⟩
  rw [← hR1] at hcp1
  have hlist := grow_list cur.toList ys.toList R0.toList i n (by rw [Array.length_toList]; omega) hi (by rw [Array.length_toList]; exact hys) (by rw [Array.length_toList]; omega) hRt
  rw [← hR1] at hlist
  obtain ⟨W2, hW2⟩ : ∃ W2, W2 = W1.setRow H R1.toArray := ⟨_, rfl⟩
  rw [← hW2] at hcp1
  have hH2 : W2.heap[H]? = some (.cells R1.toArray 28 (0, 0)) := by rw [hW2]; exact setRow_heap W1 H _ _ 28 _ hH1
  have hg2 : W2.heap[g]? = some (.cells cur 28 (0, 0)) := by rw [hW2]; exact (setRow_other W1 H g _ (by omega)).trans hg1
  have hR1s : R1.length = G * 4 := by have := hlist.2.2; have e := Array.length_toList (xs := R0); omega
  have HC : Hid (∀ ty, (Builtin.copy_ #[22, 22] ty #[.slice (some ⟨H, (i + 1) * 4, none⟩) (n - i) (G - (i + 1)), .slice (some ⟨g, i * 4, none⟩) (n - i) (cap - i)]).run Try.prog W2.drew = .ok (goInt (Nat.min (n - i) (n - i))) (W2.drew.setRow H (R1.toArray.toList.take ((i + 1) * 4) ++ (cur.toList.drop (i * 4)).take ((n - i) * 4) ++ R1.toArray.toList.drop ((i + 1) * 4 + ((cur.toList.drop (i * 4)).take ((n - i) * 4)).length)).toArray)) := fun ty => by
    refine run_copy4 W2.drew ty H ((i + 1) * 4) (n - i) (G - (i + 1)) ⟨g, i * 4, none⟩ (n - i) (cap - i) R1.toArray 28 _ hH2 ?_ ?_ ?_ ?_
    · have : Nat.min (n - i) (n - i) = n - i := by simp only [Nat.min_def]; split <;> omega
      rw [this, List.length_take, List.length_drop, Array.length_toList]; omega
    · intro j v hj
      have hadd : (⟨g, i * 4, none⟩ : Addr).add j = ⟨g, i * 4 + j, none⟩ := by unfold Addr.add; split <;> simp_all
      rw [hadd, cell_of_row W2.drew g _ _ _ _ hg2]
      rw [List.getElem?_take] at hj
      split at hj
      · rw [List.getElem?_drop] at hj; simpa using hj
      · cases hj
    · simp only [List.length_take, List.length_drop, Array.length_toList, List.size_toArray]; omega
    · intro v hv'; exact h1 v (mem_mid hi hv')
  have hGB2 : w.grownBy W2.drew none := by
    rw [hW2]
    exact ⟨hGB1.os, hGB1.tape, hGB1.output, by have := hGB1.size; simpa [World.setRow] using this, fun k hk hr => (setRow_other W1 H k _ (by omega)).trans (hGB1.block k hk hr)⟩
  have HL : Hid (_ ∧ w.grownBy W2.drew none ∧ W2.drew.heap[H]? = some (.cells R1.toArray 28 (0, 0)) ∧ R1.length = G * 4 ∧ R0.size = G * 4 ∧ w.heap.size ≤ H) := ⟨hlist, hGB2, hH2, hR1s, hRs, by omega⟩
  clear hlist hGB2 hGB1 hH2 hR1s hRs hW2 hR1 hg2 hg1 hv1 hH1 hRt h1 h2 hg hv hys hcs hTl hH
  have hi1 : (i : Int) ≤ (n : Int) := by omega
  have hz2 : ((i : Int) == (n : Int)) = false := by simp; omega
  have hcap' : (cap : Int) < (n : Int) + 1 := by omega
  have hw1 : IntKind.i64.wrap ((i : Int) + 1) = (i : Int) + 1 := by simp [IntKind.wrap, IntKind.bits, IntKind.signed]; omega
  have hw2 : IntKind.i64.wrap ((n : Int) + 1) = (n : Int) + 1 := by simp [IntKind.wrap, IntKind.bits, IntKind.signed]; omega
  have hw3 : IntKind.i64.wrap ((n : Int) + 1 - (i : Int)) = (n : Int) + 1 - (i : Int) := by simp [IntKind.wrap, IntKind.bits, IntKind.signed]; omega
  have hw0 : (0 : Int) ≤ (i : Int) + 1 := by omega
  have htn : ((i : Int) + 1).toNat = i + 1 := by omega
  have hb1 : (i : Int) + 1 ≤ (n : Int) + 1 := by omega
  have hb3 : (i : Int) ≤ (n : Int) + 1 := by omega
  have hG63 : G ≤ 9223372036854775807 := by unfold maxLen at hG2; omega
  have hic : (i : Int) ≤ (cap : Int) := by omega
  have hGi : ¬ G = i := by omega
  have hGi1 : ¬ G = i + 1 := by omega
  have hci : ¬ cap = i := by omega
  go_enter Try.func40, Try.ntmps40
  go_wp2_with (first
    | (refine wpList_append_run rfl (.tmp 34) (.tmp 39) rfl _ _ (by rfl) (by rfl) (hrz _) ?_))
  refine wp_region_any (by kernel_rfl) ?_
  change wpAny _ _ _ _ _ _ _ (World.drew _)
  refine wpAny_take (i := 0) (v := ?_) rfl (by kernel_rfl) (by kernel_rfl) (by kernel_rfl) (fun _ _ _ h => h) (Or.inl ⟨by rfl, ?_⟩) ?_
  rotate_left
  · intro w; go_simp; with_reducible rfl
  try simp only [Act.put, List.getElem_toArray, List.getElem_cons_zero, List.setIfInBounds_toArray, List.set_cons_zero, List.set_cons_succ]
  refine wpAny_take (i := 1) (v := ?_) rfl (by kernel_rfl) (by kernel_rfl) (by kernel_rfl) (fun _ _ _ h => h) (Or.inl ⟨by rfl, ?_⟩) ?_
  rotate_left
  · intro w; go_simp; with_reducible rfl
  try simp only [Act.put, List.getElem_toArray, List.getElem_cons_succ, List.getElem_cons_zero, List.setIfInBounds_toArray, List.set_cons_zero, List.set_cons_succ]
  refine wpAny_take (i := 2) (v := ?_) rfl (by kernel_rfl) (by kernel_rfl) (by kernel_rfl) (fun _ _ _ h => h) (Or.inl ⟨by rfl, ?_⟩) ?_
  rotate_left
  · intro w; go_simp; with_reducible rfl
  try simp only [Act.put, List.getElem_toArray, List.getElem_cons_succ, List.getElem_cons_zero, List.setIfInBounds_toArray, List.set_cons_zero, List.set_cons_succ]
  refine wpAny_take (i := 3) (v := ?_) rfl (by kernel_rfl) (by kernel_rfl) (by kernel_rfl) (fun _ _ _ h => h) (Or.inl ⟨by rfl, ?_⟩) ?_
  rotate_left
  · intro w; go_simp; with_reducible rfl
  try simp only [Act.put, List.getElem_toArray, List.getElem_cons_succ, List.getElem_cons_zero, List.setIfInBounds_toArray, List.set_cons_zero, List.set_cons_succ]
  refine wpAny_take (i := 4) (v := ?_) rfl (by kernel_rfl) (by kernel_rfl) (by kernel_rfl) (fun _ _ _ h => h) (Or.inl ⟨by rfl, ?_⟩) ?_
  rotate_left
  · intro w; go_simp; with_reducible rfl
  try simp only [Act.put, List.getElem_toArray, List.getElem_cons_succ, List.getElem_cons_zero, List.setIfInBounds_toArray, List.set_cons_zero, List.set_cons_succ]
  refine wpAny_take (i := 5) (v := ?_) rfl (by kernel_rfl) (by kernel_rfl) (by kernel_rfl) (fun _ _ _ h => h) (Or.inl ⟨by rfl, ?_⟩) ?_
  rotate_left
  · intro w; go_simp; with_reducible rfl
  try simp only [Act.put, List.getElem_toArray, List.getElem_cons_succ, List.getElem_cons_zero, List.setIfInBounds_toArray, List.set_cons_zero, List.set_cons_succ]
  refine wpAny_take (i := 6) (v := ?_) rfl (by kernel_rfl) (by kernel_rfl) (by kernel_rfl) (fun _ _ _ h => h) (Or.inl ⟨by rfl, ?_⟩) ?_
  rotate_left
  · intro w; go_simp; with_reducible rfl
  try simp only [Act.put, List.getElem_toArray, List.getElem_cons_succ, List.getElem_cons_zero, List.setIfInBounds_toArray, List.set_cons_zero, List.set_cons_succ]
  refine wpAny_take (i := 7) (v := ?_) rfl (by kernel_rfl) (by kernel_rfl) (by kernel_rfl) (fun _ _ _ h => h) (Or.inl ⟨by rfl, ?_⟩) ?_
  rotate_left
  · intro w; go_simp; with_reducible rfl
  try simp only [Act.put, List.getElem_toArray, List.getElem_cons_succ, List.getElem_cons_zero, List.setIfInBounds_toArray, List.set_cons_zero, List.set_cons_succ]
  refine wpAny_ready (rs := [8]) (by kernel_rfl) (by simp) ?_
  refine AllReady.cons rfl (fun K hK => ?_) AllReady.nil
  refine step_copy_run (by rfl) (.tmp 50) (.tmp 53) (by rfl) _ _ (by rfl) (by rfl) (HC.out _) ?_
  refine hK _ _ ?_
  clear hK K
  try simp only [Act.put, List.getElem_toArray, List.getElem_cons_succ, List.getElem_cons_zero, List.setIfInBounds_toArray, List.set_cons_zero, List.set_cons_succ]
  refine wpAny_done (by kernel_rfl) ?_ _
  clear hcp1 hrz
  obtain ⟨C2, hC2⟩ : ∃ C2, C2 = R1.toArray.toList.take ((i + 1) * 4) ++ (cur.toList.drop (i * 4)).take ((n - i) * 4) ++ R1.toArray.toList.drop ((i + 1) * 4 + ((cur.toList.drop (i * 4)).take ((n - i) * 4)).length) := ⟨_, rfl⟩
  rw [← hC2]
  have HC2 : Hid (C2 = _) := hC2
  clear hC2 HC
  generalize W2.drew = W3 at *
  go_wp2
  go_ret
  obtain ⟨q1, q2, q3, q4, q5, q6⟩ := HL.out
  refine ⟨_, _, rfl, ?_, q6, hG1, hG2, _, setRow_heap W3 H _ _ 28 _ q3, ?_, ?_⟩
  · exact ⟨q2.os, q2.tape, q2.output, by have := q2.size; simpa [World.setRow] using this, fun k hk hr => (setRow_other W3 H k _ (by omega)).trans (q2.block k hk hr)⟩
  · have e := q1.2.1; rw [Array.length_toList] at e; rw [List.size_toArray, HC2.out]; exact e.trans q5
  · have e := q1.1; rw [HC2.out]; simpa using e
end Go.Proofs.Ytehmlpkapjdhkaa
