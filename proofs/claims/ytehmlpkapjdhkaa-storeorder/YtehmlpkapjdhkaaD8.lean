import Derived.Test.YtehmlpkapjdhkaaD7
namespace Go.Proofs.Ytehmlpkapjdhkaa
open Go.RowKit

theorem wpList_append_runs {ops : Array Oper} {rest : List Oper} {o : Oper} {a : Act} {w : World} {Q : Exit → Act → World → Prop} (hgd : o.guard = none) (d s : Operand)
    (ho : o.op = .call { callee := .builtin .append, args := #[d, s], argTypes := #[22, 22] }) (v u : Value) (hd : a.eval d = v) (hs : a.eval s = u) {v' : Value} {w' : World}
    (hr : (Builtin.append_ #[22, 22] o.type #[v, u]).run Try.prog w = .ok v' w') (h : wpList Try.prog ops Q rest (a.put o.dst v') w') : wpList Try.prog ops Q (o :: rest) a w := by
  refine wpList_plain hgd fun K hK => ?_
  unfold Oper.wp execOp
  simp only [ho, resolve, invoke, builtin, Sem.run_bind, Sem.run_pure, Result.andThen_ok, List.map_toArray, List.map_cons, List.map_nil, hd, hs, hr]
  exact hK _ _ h

/-- append onto a row of one's own; the new row is the old one's block or a new block. -/
theorem app_own (w : World) (base : Nat) (ty : TypeId) (v : Value) (n : Nat) (xs : List Value) (hown : w.ownsRow base 28 4 v n xs) (vb : Nat) (ys : Array Value) (hv : w.heap[vb]? = some (.cells ys 28)) (hys : ys.size = 4)
    (h2 : ∀ v ∈ ys.toList, v.oneCell' = true) (hn : n ≤ 1000) (hbase : base ≤ w.heap.size) :
    ∃ v' w', (Builtin.append_ #[22, 22] ty #[v, .slice (some ⟨vb, 0, none⟩) 1 1]).run Try.prog w = .ok v' w' ∧ w'.ownsRow base 28 4 v' (n + 1) (xs ++ ys.toList) ∧ w.grownBy w' v.ownBlock ∧ ∀ k, v'.ownBlock = some k → v.ownBlock = some k ∨ w.heap.size ≤ k := by
  obtain ⟨i0, hi0, hz0, hzs, hzb⟩ := info_parts Try.info28
  have hl : ys.toList.length = 1 * 4 := by rw [Array.length_toList, hys]
  have hnews := World.news_of_block hv
  obtain ⟨v', w', hr, q1, q2, _⟩ := run_append_own (P := Try.prog) w base 22 ty 28 i0 _ 4 56 Try.underlying22 hi0 hz0 hzs hzb rfl (by omega) v n xs hown ⟨vb, 0, none⟩ 1 1 ys.toList hl hnews h2 (by unfold maxLen; omega) (by omega) hbase
  refine ⟨v', w', hr, q1, q2, ?_⟩
  rcases hown.2 with ⟨rfl, rfl⟩ | ⟨g, cap, cur, rfl, hbg, hg, hnc, hcm, hcs, htake⟩
  · obtain ⟨v2, w2, hr2, p1, _, _⟩ := run_append_own (P := Try.prog) w w.heap.size 22 ty 28 i0 _ 4 56 Try.underlying22 hi0 hz0 hzs hzb rfl (by omega) _ 0 [] (World.ownsRow_nil _ _ _ _) ⟨vb, 0, none⟩ 1 1 ys.toList hl hnews h2 (by unfold maxLen; omega) (by omega) (Nat.le_refl _)
    rw [hr] at hr2
    cases hr2
    exact fun k hk => .inr (p1.lt k hk).1
  · by_cases hroom : n + 1 ≤ cap
    · have hr2 := run_append_room (P := Try.prog) w 22 ty 28 i0 Try.underlying22 hi0 g n cap cur hg ⟨vb, 0, none⟩ 1 1 ys.toList (by rw [hzs]; exact hl) hnews h2 hroom (by rw [hzs, hl]; omega)
      rw [hr] at hr2
      cases hr2
      exact fun k hk => .inl hk
    · have hr2 := run_append_grow (P := Try.prog) w 22 ty 28 i0 _ Try.underlying22 hi0 hz0 ⟨g, 0, none⟩ n cap xs (by rw [hzs]; exact hown.1) (hown.cells (g := g) rfl) ⟨vb, 0, none⟩ 1 1 ys.toList (by rw [hzs]; exact hl) hnews (by omega) (by omega) (by rw [hzb]; exact growslice_fits (by omega) (by omega))
      rw [hr] at hr2
      cases hr2
      exact fun k hk => .inr (by simp [Value.ownBlock] at hk; omega)

set_option maxHeartbeats 800000 in
set_option maxRecDepth 100000 in
theorem insert_end (base n vb : Nat) (v : Value) (xs : List Value) (ys : Array Value) (w : World) (hn : n ≤ 1000) (hown : w.ownsRow base 28 4 v n xs)
    (hv : w.heap[vb]? = some (.cells ys 28)) (hys : ys.size = 4) (h2 : ∀ v ∈ ys.toList, v.oneCell' = true) (hbase : base ≤ w.heap.size) :
    Calls Try.prog 40 #[v, .int .i64 n, .slice (some ⟨vb, 0, none⟩) 1 1] w fun e w' => ∃ v', e = .returned v' ∧ w'.ownsRow base 28 4 v' (n + 1) (xs ++ ys.toList) ∧ w.grownBy w' v.ownBlock ∧ ∀ k, v'.ownBlock = some k → v.ownBlock = some k ∨ w.heap.size ≤ k := by
  obtain ⟨v', w', hr, q1, q2, q3⟩ := app_own w base 22 v n xs hown vb ys hv hys h2 hn hbase
  have HQ : Hid (w'.ownsRow base 28 4 v' (n + 1) (xs ++ ys.toList) ∧ w.grownBy w' v.ownBlock ∧ ∀ k, v'.ownBlock = some k → v.ownBlock = some k ∨ w.heap.size ≤ k) := ⟨q1, q2, q3⟩
  clear q1 q2 q3
  rcases hown.2 with ⟨rfl, rfl⟩ | ⟨g, cap, cur, rfl, hbg, hg, hnc, hcm, hcs, htake⟩
  · clear hown hv hys h2
    go_enter Try.func40, Try.ntmps40
    go_wp2_with (refine wpList_append_runs rfl (.tmp 23) (.tmp 24) rfl _ _ (by rfl) (by rfl) hr ?_)
    go_ret
    exact ⟨_, rfl, HQ.out⟩
  · have hnc' : (n : Int) ≤ (cap : Int) := by omega
    have hcm' : cap ≤ 9223372036854775807 := by unfold maxLen at hcm; omega
    clear hown hv hys h2 hg htake hcs
    go_enter Try.func40, Try.ntmps40
    go_wp2_with (refine wpList_append_runs rfl (.tmp 23) (.tmp 24) rfl _ _ (by rfl) (by rfl) hr ?_)
    all_goals (go_ret; exact ⟨_, rfl, HQ.out⟩)

/-- Insert of one object into a row of its own. -/
theorem insert_any (base n i vb : Nat) (v : Value) (xs : List Value) (ys : Array Value) (w : World) (hi : i ≤ n) (hn : n ≤ 1000) (hown : w.ownsRow base 28 4 v n xs)
    (hv : w.heap[vb]? = some (.cells ys 28)) (hys : ys.size = 4) (hne : v.ownBlock ≠ some vb) (h1 : ∀ v ∈ xs, v.oneCell' = true) (h2 : ∀ v ∈ ys.toList, v.oneCell' = true) (hbase : base ≤ w.heap.size) :
    Calls Try.prog 40 #[v, .int .i64 i, .slice (some ⟨vb, 0, none⟩) 1 1] w fun e w' => ∃ v', e = .returned v' ∧ w'.ownsRow base 28 4 v' (n + 1) (xs.take (i * 4) ++ ys.toList ++ xs.drop (i * 4)) ∧ w.grownBy w' v.ownBlock ∧ ∀ k, v'.ownBlock = some k → v.ownBlock = some k ∨ w.heap.size ≤ k := by
  rcases Nat.lt_or_ge i n with hlt | hge
  · rcases hown.2 with ⟨rfl, rfl⟩ | ⟨g, cap, cur, rfl, hbg, hg, hnc, hcm, hcs, htake⟩
    · omega
    have hxl := hown.1
    have hx1 : cur.toList.take (i * 4) = xs.take (i * 4) := by
      rw [← htake, List.take_take]; congr 1; omega
    have hx2 : (cur.toList.drop (i * 4)).take ((n - i) * 4) = xs.drop (i * 4) := by
      rw [← htake, List.take_drop]; congr 2; omega
    have hxl' : (xs.take (i * 4) ++ ys.toList ++ xs.drop (i * 4)).length = (n + 1) * 4 := by
      simp only [List.length_append, List.length_take, List.length_drop, Array.length_toList]; omega
    rcases Nat.lt_or_ge cap (n + 1) with hc | hc
    · refine (insert_grow g n cap i vb cur ys w hlt hnc hc hn hg hcs hv hys (by rw [htake]; exact h1) h2).mono ?_
      rintro e w' ⟨H, G, rfl, hgb, hH, hG, hGm, cur', hc', hs', ht'⟩
      refine ⟨_, rfl, ⟨hxl', .inr ⟨H, G, cur', rfl, by omega, hc', hG, hGm, hs', ?_⟩⟩, ?_, ?_⟩
      · rw [ht', hx1, hx2]
      · exact ⟨hgb.os, hgb.tape, hgb.output, hgb.size, fun k hk _ => hgb.block k hk (by simp)⟩
      · intro k hk; cases hk; exact .inr hH
    · refine (insert_room g n cap i vb cur ys w hlt hc (by unfold maxLen at hcm; omega) hn hg hcs hv hys (fun e => hne (by rw [e]; rfl)) (by rw [htake]; exact h1) h2).mono ?_
      rintro e w' ⟨rfl, hgb, cur', hc', hs', ht'⟩
      refine ⟨_, rfl, ⟨hxl', .inr ⟨g, cap, cur', rfl, hbg, hc', hc, hcm, hs', ?_⟩⟩, hgb, fun k hk => .inl hk⟩
      rw [ht', hx1, hx2]
  · have hin : i = n := by omega
    subst hin
    have hxl := hown.1
    refine (insert_end base i vb v xs ys w hn hown hv hys h2 hbase).mono ?_
    rintro e w' ⟨v', rfl, ho, hgb, hfr⟩
    refine ⟨v', rfl, ?_, hgb, hfr⟩
    rw [← hxl, List.take_length, List.drop_length, List.append_nil]
    exact ho
end Go.Proofs.Ytehmlpkapjdhkaa
