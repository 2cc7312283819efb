import Derived.Test.YtehmlpkapjdhkaaD5
import Derived.Lib.Overlaps
import Derived.Lib.AppendZerosOnto
import Derived.Laws.CopyRow
namespace Go.Proofs.Ytehmlpkapjdhkaa
open Go.RowKit

theorem Try.info28 : (Try.prog.info? 28).map (fun i => (i.zero, i.size, i.bytes)) = some (some (.agg #[.int .i64 0, .int .i64 0, .slice none 0 0, .string { data := #[] }]), 4, 56) := by kernel_rfl

/-- copy over rows of objects. -/
theorem run_copy4 (w : World) (ty : TypeId) (g o dLen dCap : Nat) (a : Addr) (sLen sCap : Nat) (cur : Array Value) (t : TypeId) (cs : List Value)
    (hg : w.heap[g]? = some (.cells cur t (0, 0))) (hn : cs.length = Nat.min sLen dLen * 4)
    (hsrc : ∀ j v, cs[j]? = some v → w.cell? (a.add j) = some v) (hfit : o + cs.length ≤ cur.size) (h1 : ∀ v ∈ cs, v.oneCell' = true) :
    (Builtin.copy_ #[22, 22] ty #[.slice (some ⟨g, o, none⟩) dLen dCap, .slice (some a) sLen sCap]).run Try.prog w =
      .ok (goInt (Nat.min sLen dLen)) (w.setRow g (cur.toList.take o ++ cs ++ cur.toList.drop (o + cs.length)).toArray) := by
  obtain ⟨i0, hi, hz0, hz1, hz2⟩ := info_parts Try.info28
  have hl := run_loadCells_list (P := Try.prog) w a cs hsrc
  have hst := run_storeCells_at Try.prog g o t cs 0 cur w hg (by simpa using hfit) h1
  simp [Builtin.copy_, run_underlying Try.underlying22, Builtin.lenOf, Builtin.firstCells, sizeOf, typeInfo, hi, hz1, ← hn, hl, hst]

theorem mem_mid {X : List Value} {i n : Nat} {v : Value} (hi : i < n) (h : v ∈ (X.drop (i * 4)).take ((n - i) * 4)) : v ∈ X.take (n * 4) := by
  rw [List.take_drop, show i * 4 + (n - i) * 4 = n * 4 by omega] at h
  exact List.mem_of_mem_drop h

theorem ins_list (X Y : List Value) (i n : Nat) (hX : (n + 1) * 4 ≤ X.length) (hi : i < n) (hY : Y.length = 4) :
    let C1 := X.take ((i + 1) * 4) ++ (X.drop (i * 4)).take ((n - i) * 4) ++ X.drop ((i + 1) * 4 + ((X.drop (i * 4)).take ((n - i) * 4)).length)
    (C1.take (i * 4) ++ Y ++ C1.drop (i * 4 + Y.length)).take ((n + 1) * 4) = X.take (i * 4) ++ Y ++ (X.drop (i * 4)).take ((n - i) * 4) ∧ (C1.take (i * 4) ++ Y ++ C1.drop (i * 4 + Y.length)).length = X.length := by
  intro C1
  have hM : ((X.drop (i * 4)).take ((n - i) * 4)).length = (n - i) * 4 := by rw [List.length_take, List.length_drop]; omega
  have hA : (X.take ((i + 1) * 4)).length = (i + 1) * 4 := by rw [List.length_take]; omega
  have e1 : C1.take (i * 4) = X.take (i * 4) := by
    show (X.take ((i + 1) * 4) ++ _ ++ _).take (i * 4) = _
    rw [List.append_assoc, List.take_append_of_le_length (by omega), List.take_take]
    congr 1; omega
  have e2 : C1.drop (i * 4 + Y.length) = (X.drop (i * 4)).take ((n - i) * 4) ++ X.drop ((i + 1) * 4 + ((X.drop (i * 4)).take ((n - i) * 4)).length) := by
    show (X.take ((i + 1) * 4) ++ _ ++ _).drop (i * 4 + Y.length) = _
    rw [List.append_assoc, hY, show i * 4 + 4 = (X.take ((i + 1) * 4)).length by omega, List.drop_left]
  rw [e1, e2]
  have hT : (X.take (i * 4)).length = i * 4 := by rw [List.length_take]; omega
  constructor
  · rw [← List.append_assoc, show (n + 1) * 4 = (X.take (i * 4) ++ Y ++ (X.drop (i * 4)).take ((n - i) * 4)).length by simp only [List.length_append]; omega, List.take_left]
  · simp only [List.length_append, List.length_drop]; omega

/-- 'copy' where its run is known: at a step of a drawn region, and in a plain one. -/
theorem step_copy_run {ops : Array Oper} {o : Oper} {a : Act} {w : World} {K : Act → World → Prop} {Q : Exit → Act → World → Prop} {E : Prop} (hgd : o.guard = none) (d s : Operand)
    (ho : o.op = .call { callee := .builtin .copy, args := #[d, s], argTypes := #[22, 22] }) (v u : Value) (hd : a.eval d = v) (hs : a.eval s = u) {v' : Value} {w' : World}
    (hr : (Builtin.copy_ #[22, 22] o.type #[v, u]).run Try.prog w = .ok v' w') (h : K (a.put o.dst v') w') : if Region.wanted o (yielded ops a.tmps) = true then Oper.wp Try.prog o a w K Q else E := by
  have hw : Region.wanted o (yielded ops a.tmps) = true := by simp [Region.wanted, hgd]
  rw [if_pos hw]
  unfold Oper.wp execOp
  simp only [ho, resolve, invoke, builtin, Sem.run_bind, Sem.run_pure, Result.andThen_ok, List.map_toArray, List.map_cons, List.map_nil, hd, hs, hr]
  exact h
theorem wpList_copy_run {ops : Array Oper} {rest : List Oper} {o : Oper} {a : Act} {w : World} {Q : Exit → Act → World → Prop} (hgd : o.guard = none) (d s : Operand)
    (ho : o.op = .call { callee := .builtin .copy, args := #[d, s], argTypes := #[22, 22] }) (v u : Value) (hd : a.eval d = v) (hs : a.eval s = u) {v' : Value} {w' : World}
    (hr : (Builtin.copy_ #[22, 22] o.type #[v, u]).run Try.prog w = .ok v' w') (h : wpList Try.prog ops Q rest (a.put o.dst v') w') : wpList Try.prog ops Q (o :: rest) a w := by
  refine wpList_plain hgd fun K hK => ?_
  unfold Oper.wp execOp
  simp only [ho, resolve, invoke, builtin, Sem.run_bind, Sem.run_pure, Result.andThen_ok, List.map_toArray, List.map_cons, List.map_nil, hd, hs, hr]
  exact hK _ _ h

theorem overlaps_no (w : World) (g vb o lb cb : Nat) (cur ys : Array Value) (hg : w.heap[g]? = some (.cells cur 28 (0, 0))) (hv : w.heap[vb]? = some (.cells ys 28)) (hne : vb ≠ g) (hc : cur.size ≠ 0) :
    (callFunc 49 #[.slice (some ⟨vb, 0, none⟩) 1 1, .slice (some ⟨g, o, none⟩) lb cb]).run Try.prog w = .ok (.value (.bool false)) w := by
  obtain ⟨i0, hi, hz0, hz1, hz2⟩ := info_parts Try.info28
  have hz : ∀ w, (Go.sizeOf 28).run Try.prog w = .ok 4 w := fun w => by simp [sizeOf, typeInfo, hi, hz1]
  have hfr : ∀ k, w.frozen? ⟨vb, k, none⟩ = false := fun k => by simp [World.frozen?, hv]
  rw [run_callFunc_extern Try.func49 (by kernel_rfl) (by kernel_rfl) (by kernel_rfl) (e := Extern.SlicesOverlaps.overlaps #[22, 22] #[4]) (by kernel_rfl),
    Lib.run_overlaps_apart w 22 4 28 Try.underlying22 4 hz ⟨vb, 0, none⟩ ⟨g, o, none⟩ 1 1 lb cb hne 28 28 ys.size cur.size (by simp [World.shape?, hv]) (by simp [World.shape?, hg]) hc (hfr 0) (hfr _)]
  rfl

set_option maxHeartbeats 800000 in
set_option maxRecDepth 100000 in
theorem insert_room (g n cap i vb : Nat) (cur : Array Value) (ys : Array Value) (w : World) (hi : i < n) (hroom : n + 1 ≤ cap) (hcap : cap ≤ 9223372036854775807) (hn : n ≤ 1000)
    (hg : w.heap[g]? = some (.cells cur 28 (0, 0))) (hcs : cur.size = cap * 4) (hv : w.heap[vb]? = some (.cells ys 28)) (hys : ys.size = 4) (hne : vb ≠ g)
    (h1 : ∀ v ∈ cur.toList.take (n * 4), v.oneCell' = true) (h2 : ∀ v ∈ ys.toList, v.oneCell' = true) :
    Calls Try.prog 40 #[.slice (some ⟨g, 0, none⟩) n cap, .int .i64 i, .slice (some ⟨vb, 0, none⟩) 1 1] w fun e w' =>
      e = .returned (.slice (some ⟨g, 0, none⟩) (n + 1) cap) ∧ w.grownBy w' (some g) ∧ ∃ cur', w'.heap[g]? = some (.cells cur' 28 (0, 0)) ∧ cur'.size = cap * 4 ∧ cur'.toList.take ((n + 1) * 4) = cur.toList.take (i * 4) ++ ys.toList ++ (cur.toList.drop (i * 4)).take ((n - i) * 4) := by
  have hi1 : (i : Int) ≤ (n : Int) := by omega
  have hz2 : ((i : Int) == (n : Int)) = false := by simp; omega
  have hcap' : ¬ ((cap : Int) < (n : Int) + 1) := by omega
  have hb1 : (i : Int) + 1 ≤ (n : Int) + 1 := by omega
  have hw1 : IntKind.i64.wrap ((i : Int) + 1) = (i : Int) + 1 := by simp [IntKind.wrap, IntKind.bits, IntKind.signed]; omega
  have hw0 : (0 : Int) ≤ (i : Int) + 1 := by omega
  have htn : ((i : Int) + 1).toNat = i + 1 := by omega
  have hc1 : ¬ cap = i + 1 := by omega
  have hc0 : ¬ cap = i := by omega
  have hb3 : (i : Int) ≤ (n : Int) + 1 := by omega
  have hov := overlaps_no w g vb ((i + 1) * 4) (n - i) (cap - (i + 1)) cur ys hg hv hne (by omega)
  have HC1 : Hid (∀ ty, (Builtin.copy_ #[22, 22] ty #[.slice (some ⟨g, (i + 1) * 4, none⟩) (n - i) (cap - (i + 1)), .slice (some ⟨g, i * 4, none⟩) (n + 1 - i) (cap - i)]).run Try.prog w.drew = .ok (goInt (Nat.min (n + 1 - i) (n - i))) (w.drew.setRow g (cur.toList.take ((i + 1) * 4) ++ (cur.toList.drop (i * 4)).take ((n - i) * 4) ++ cur.toList.drop ((i + 1) * 4 + ((cur.toList.drop (i * 4)).take ((n - i) * 4)).length)).toArray)) := fun ty => by
    refine run_copy4 w.drew ty g ((i + 1) * 4) (n - i) (cap - (i + 1)) ⟨g, i * 4, none⟩ (n + 1 - i) (cap - i) cur 28 _ hg ?_ ?_ ?_ ?_
    · have : Nat.min (n + 1 - i) (n - i) = n - i := by simp only [Nat.min_def]; split <;> omega
      rw [this, List.length_take, List.length_drop, Array.length_toList]; omega
    · intro j v hj
      have hadd : (⟨g, i * 4, none⟩ : Addr).add j = ⟨g, i * 4 + j, none⟩ := by unfold Addr.add; split <;> simp_all
      rw [hadd, cell_of_row w.drew g _ _ _ _ hg]
      rw [List.getElem?_take] at hj
      split at hj
      · rw [List.getElem?_drop] at hj; simpa using hj
      · cases hj
    · rw [List.length_take, List.length_drop, Array.length_toList]; omega
    · intro v hv'; exact h1 v (mem_mid hi hv')
  have HG : Hid (w.heap[g]? = some (.cells cur 28 (0, 0)) ∧ w.heap[vb]? = some (.cells ys 28) ∧ cur.size = cap * 4 ∧ ys.size = 4 ∧ (∀ v ∈ cur.toList.take (n * 4), v.oneCell' = true) ∧ (∀ v ∈ ys.toList, v.oneCell' = true)) := ⟨hg, hv, hcs, hys, h1, h2⟩
  clear hg hv hcs hys h1 h2
  go_enter Try.func40, Try.ntmps40
  go_wp2_with fail
  refine wp_region_any (by kernel_rfl) ?_
  change wpAny _ _ _ _ _ _ _ (World.drew _)
  refine wpAny_take (i := 0) (v := ?_) rfl (by kernel_rfl) (by kernel_rfl) (by kernel_rfl) (fun _ _ _ h => h) (Or.inl ⟨by rfl, ?_⟩) ?_
  rotate_left
  · intro w; go_simp; with_reducible rfl
  try simp only [Act.put, List.getElem_toArray, List.getElem_cons_zero, List.setIfInBounds_toArray, List.set_cons_zero, List.set_cons_succ]
  refine wpAny_take (i := 1) (v := ?_) rfl (by kernel_rfl) (by kernel_rfl) (by kernel_rfl) (fun _ _ _ h => h) (Or.inl ⟨by rfl, ?_⟩) ?_
  rotate_left
  · intro w; go_simp; with_reducible rfl
  try simp only [Act.put, List.getElem_toArray, List.getElem_cons_succ, List.getElem_cons_zero, List.setIfInBounds_toArray, List.set_cons_zero, List.set_cons_succ]
  refine wpAny_take (i := 2) (v := ?_) rfl (by kernel_rfl) (by kernel_rfl) (by kernel_rfl) (fun _ _ _ h => h) (Or.inl ⟨by rfl, ?_⟩) ?_
  rotate_left
  · intro w; go_simp; with_reducible rfl
  try simp only [Act.put, List.getElem_toArray, List.getElem_cons_succ, List.getElem_cons_zero, List.setIfInBounds_toArray, List.set_cons_zero, List.set_cons_succ]
  refine wpAny_take (i := 3) (v := ?_) rfl (by kernel_rfl) (by kernel_rfl) (by kernel_rfl) (fun _ _ _ h => h) (Or.inl ⟨by rfl, ?_⟩) ?_
  rotate_left
  · intro w; go_simp; with_reducible rfl
  try simp only [Act.put, List.getElem_toArray, List.getElem_cons_succ, List.getElem_cons_zero, List.setIfInBounds_toArray, List.set_cons_zero, List.set_cons_succ]
  refine wpAny_take (i := 4) (v := ?_) rfl (by kernel_rfl) (by kernel_rfl) (by kernel_rfl) (fun _ _ _ h => h) (Or.inl ⟨by rfl, ?_⟩) ?_
  rotate_left
  · intro w; go_simp; with_reducible rfl
  try simp only [Act.put, List.getElem_toArray, List.getElem_cons_succ, List.getElem_cons_zero, List.setIfInBounds_toArray, List.set_cons_zero, List.set_cons_succ]
  refine wpAny_take (i := 5) (v := ?_) rfl (by kernel_rfl) (by kernel_rfl) (by kernel_rfl) (fun _ _ _ h => h) (Or.inl ⟨by rfl, ?_⟩) ?_
  rotate_left
  · intro w; go_simp; with_reducible rfl
  try simp only [Act.put, List.getElem_toArray, List.getElem_cons_succ, List.getElem_cons_zero, List.setIfInBounds_toArray, List.set_cons_zero, List.set_cons_succ]
  refine wpAny_take (i := 6) (v := ?_) rfl (by kernel_rfl) (by kernel_rfl) (by kernel_rfl) (fun _ _ _ h => h) (Or.inl ⟨by rfl, ?_⟩) ?_
  rotate_left
  · intro w; go_simp; with_reducible rfl
  try simp only [Act.put, List.getElem_toArray, List.getElem_cons_succ, List.getElem_cons_zero, List.setIfInBounds_toArray, List.set_cons_zero, List.set_cons_succ]
  refine wpAny_take (i := 7) (v := ?_) rfl (by kernel_rfl) (by kernel_rfl) (by kernel_rfl) (fun _ _ _ h => h) (Or.inl ⟨by rfl, ?_⟩) ?_
  rotate_left
  · intro w; go_simp; with_reducible rfl
  try simp only [Act.put, List.getElem_toArray, List.getElem_cons_succ, List.getElem_cons_zero, List.setIfInBounds_toArray, List.set_cons_zero, List.set_cons_succ]
  refine wpAny_ready (rs := [8]) (by kernel_rfl) (by simp) ?_
  refine AllReady.cons rfl (fun K hK => ?_) AllReady.nil
  refine step_copy_run (by rfl) (.tmp 73) (.tmp 76) (by rfl) _ _ (by rfl) (by rfl) (HC1.out _) ?_
  refine hK _ _ ?_
  clear hK K
  try simp only [Act.put, List.getElem_toArray, List.getElem_cons_succ, List.getElem_cons_zero, List.setIfInBounds_toArray, List.set_cons_zero, List.set_cons_succ]
  refine wpAny_done (by kernel_rfl) ?_ _
  obtain ⟨hg, hv, hcs, hys, h1, h2⟩ := HG.out
  obtain ⟨C1, hC1⟩ : ∃ C1 : List Value, C1 = cur.toList.take ((i + 1) * 4) ++ (cur.toList.drop (i * 4)).take ((n - i) * 4) ++ cur.toList.drop ((i + 1) * 4 + ((cur.toList.drop (i * 4)).take ((n - i) * 4)).length) := ⟨_, rfl⟩
  rw [← hC1]
  have hW1 : (w.drew.setRow g C1.toArray).heap[g]? = some (.cells C1.toArray 28 (0, 0)) := setRow_heap w.drew g _ _ 28 _ hg
  have hV1 : (w.drew.setRow g C1.toArray).heap[vb]? = some (.cells ys 28) := (setRow_other w.drew g vb _ hne).trans hv
  have hG1 : w.grownBy (w.drew.setRow g C1.toArray) (some g) := ⟨rfl, rfl, rfl, by simp [World.setRow], fun k _ hk => setRow_other w.drew g k _ (fun e => hk (by rw [e]))⟩
  have hL1 : C1.length = cap * 4 := by rw [hC1]; simp only [List.length_append, List.length_take, List.length_drop, Array.length_toList]; omega
  have hlist := ins_list cur.toList ys.toList i n (by rw [Array.length_toList]; omega) (by omega) (by rw [Array.length_toList]; exact hys)
  rw [← hC1] at hlist
  have HL : Hid (_ ∧ w.grownBy (w.drew.setRow g C1.toArray) (some g) ∧ _ ∧ cur.size = cap * 4) := ⟨hlist, hG1, hW1, hcs⟩
  have HC2 : Hid (∀ ty, (Builtin.copy_ #[22, 22] ty #[.slice (some ⟨g, i * 4, none⟩) (n + 1 - i) (cap - i), .slice (some ⟨vb, 0, none⟩) 1 1]).run Try.prog (w.drew.setRow g C1.toArray) = .ok (goInt (Nat.min 1 (n + 1 - i))) ((w.drew.setRow g C1.toArray).setRow g (C1.toArray.toList.take (i * 4) ++ ys.toList ++ C1.toArray.toList.drop (i * 4 + ys.toList.length)).toArray)) := fun ty => by
    refine run_copy4 _ ty g (i * 4) (n + 1 - i) (cap - i) ⟨vb, 0, none⟩ 1 1 C1.toArray 28 ys.toList hW1 ?_ ?_ ?_ h2
    · have : Nat.min 1 (n + 1 - i) = 1 := by simp only [Nat.min_def]; split <;> omega
      rw [this, Array.length_toList, hys]
    · exact World.news_of_block hV1
    · simp only [List.size_toArray, Array.length_toList]; omega
  clear HC1 HG hg hv hcs hys h1 h2 hC1 hW1 hV1 hG1 hL1 hlist hov
  generalize w.drew.setRow g C1.toArray = W1 at *
  have hcp2 := HC2.out 3
  clear HC2
  obtain ⟨C2, hC2⟩ : ∃ C2, C2 = C1.toArray.toList.take (i * 4) ++ ys.toList ++ C1.toArray.toList.drop (i * 4 + ys.toList.length) := ⟨_, rfl⟩
  rw [← hC2] at hcp2
  have HC2 : Hid (C2 = C1.toArray.toList.take (i * 4) ++ ys.toList ++ C1.toArray.toList.drop (i * 4 + ys.toList.length)) := hC2
  clear hC2
  go_wp2
  go_ret
  obtain ⟨q1, q2, q3, q4⟩ := HL.out
  refine ⟨rfl, ?_, _, setRow_heap W1 g _ _ 28 _ q3, ?_, ?_⟩
  · exact ⟨q2.os, q2.tape, q2.output, by have := q2.size; simpa [World.setRow] using this, fun k hk hr => (setRow_other W1 g k _ (fun e => hr (by rw [e]))).trans (q2.block k hk hr)⟩
  · have e := q1.2; rw [Array.length_toList] at e; rw [List.size_toArray, HC2.out]; exact e.trans q4
  · have e := q1.1; rw [HC2.out]; simpa using e
end Go.Proofs.Ytehmlpkapjdhkaa
