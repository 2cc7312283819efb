import Derived.Test.YtbppoffhpmoplabF15
namespace Go.Proofs.Ytbppoffhpmoplab
open Go.RowKit

/-- append of a slice of ints onto one that the call owns, of whatever length up to four millions. -/
theorem run_append_many (w : World) (ty : TypeId) (base n : Nat) (v : Value) (xs : List Int) (hown : w.ownsRow base 3 1 v n (xs.map (Value.int .i64)))
    (ad : Option Addr) (m c : Nat) (L : List Int) (hm : L.length = m) (hh : Holds w ad L) (hn : n + m ≤ 4000000) (hbase : base ≤ w.heap.size) :
    ∃ g' N cap' w', N = n + m ∧ (Builtin.append_ #[27, 27] ty #[v, .slice ad m c]).run Try.prog w = .ok (.slice g' N cap') w' ∧
      w'.ownsRow base 3 1 (.slice g' N cap') N ((xs ++ L).map (Value.int .i64)) ∧ w.grownBy w' v.ownBlock := by
  obtain ⟨i0, hi, hz0, hz1, hz2⟩ := info_parts Try.info3
  by_cases h0 : m = 0
  · subst h0
    have hL : L = [] := List.eq_nil_of_length_eq_zero hm
    subst hL
    have hgr : w.grownBy w v.ownBlock := ⟨rfl, rfl, rfl, Nat.le_refl _, fun _ _ _ => rfl⟩
    rcases hown.2 with ⟨rfl, rfl⟩ | ⟨g, cap, cur, rfl, hb, hg, hnc, hcm, hcs, htk⟩
    · exact ⟨none, 0, 0, w, rfl, run_append_none w ty 0 0 none ad c (by simp) (Nat.le_refl _), by simpa using hown, hgr⟩
    · exact ⟨_, n, cap, w, rfl, run_append_none w ty n cap _ ad c (by simp) hnc, by simpa using hown, hgr⟩
  · have hlen : 0 < L.length := by omega
    obtain ⟨b, off, rfl, hb, hc⟩ := hh 0 hlen
    obtain ⟨g, cap, w', hr, h1, h2, _, _⟩ := run_append_lies w 27 ty base 3 i0 (.int .i64 0) 1 8 Try.underlying27 hi hz0 hz1 hz2 rfl (by decide) v n _ hown ⟨b, off, none⟩ m c (L.map (Value.int .i64)) (by simp [hm])
      (fun j u hj => by
        have hj' : j < L.length := by
          rcases Nat.lt_or_ge j L.length with h | h
          · exact h
          · simp [List.getElem?_eq_none (show (L.map (Value.int .i64)).length ≤ j by simpa using h)] at hj
        have hadd : (⟨b, off, none⟩ : Addr).add j = ⟨b, off + j, none⟩ := by unfold Addr.add; split <;> simp_all
        rw [hadd, hc j hj']
        simp [List.getElem?_eq_getElem hj'] at hj
        subst hj
        simp [List.getElem?_eq_getElem hj'])
      (fun u hu => by simp at hu; obtain ⟨x, _, rfl⟩ := hu; rfl) (by omega) (by unfold maxLen; omega) (by omega) hbase _ rfl
    exact ⟨_, n + m, cap, w', rfl, hr, by simpa using h1, h2⟩

/-- two lists of ints behind one another, in a row of their own. -/
theorem both_ints (W : World) (ty : TypeId) (a : Option Addr) (c : Nat) (A : List Int) (h : Holds W a A) (a2 : Option Addr) (c2 : Nat) (B : List Int) (h2 : Holds W a2 B) (hlen : A.length + B.length ≤ 4000000) :
    ∃ v1 W1 a3 c3 W2, (Builtin.append_ #[27, 27] ty #[.slice (some ⟨W.heap.size, 0, none⟩) 0 0, .slice a A.length c]).run Try.prog (W.alloc (.cells #[] 3)) = .ok v1 W1 ∧
      (Builtin.append_ #[27, 27] ty #[v1, .slice a2 B.length c2]).run Try.prog W1 = .ok (.slice a3 (A ++ B).length c3) W2 ∧ Holds W2 a3 (A ++ B) ∧ Below W.heap.size W W2 := by
  have hb0 := below_alloc W (.cells #[] 3)
  have o0 : (W.alloc (.cells #[] 3)).ownsRow W.heap.size 3 1 (.slice (some ⟨W.heap.size, 0, none⟩) 0 0) 0 (([] : List Int).map (Value.int .i64)) := World.ownsRow_made W #[] 0 (Nat.le_refl _) (by unfold maxLen; omega) rfl
  have gb : ∀ {w w' : World} {v : Value} {n : Nat} {xs : List Value}, w.ownsRow W.heap.size 3 1 v n xs → w.grownBy w' v.ownBlock → W.heap.size ≤ w.heap.size → Below W.heap.size w w' := fun ho hg hs =>
    ⟨hg.os, hg.tape, hg.output, hg.size, fun k hk => hg.block k (by omega) (fun e => by have := (ho.lt k e.symm).1; omega)⟩
  obtain ⟨g1, N1, c1, W1, e1, r1, o1, q1⟩ := run_append_many _ ty W.heap.size 0 _ [] o0 a A.length c A rfl (h.below hb0) (by omega) hb0.size
  have B1 := hb0.trans (gb o0 q1 hb0.size)
  obtain ⟨g2, N2, c2', W2, e2, r2, o2, q2⟩ := run_append_many _ ty W.heap.size N1 _ ([] ++ A) o1 a2 B.length c2 B rfl (h2.below B1) (by omega) B1.size
  have B2 := B1.trans (gb o1 q2 B1.size)
  obtain ⟨a3, c3, ev, hh, _⟩ := own_shape (L := [] ++ A ++ B) o2 (by simp; omega)
  rw [List.nil_append] at hh
  refine ⟨_, W1, a3, c3, W2, r1, ?_, hh, B2⟩
  rw [r2, ev]
  rw [List.length_append, e2, e1, Nat.zero_add]

set_option maxHeartbeats 400000 in
theorem has_any (a : Option Addr) (c : Nat) (L : List Int) (x : Int) (w : World) (h : Holds w a L) (hl : L.length ≤ 9223372036854775807) :
    Calls Try.prog 18 #[.slice a L.length c, .int .i64 x] w fun e w' => e = .returned (.bool (decide (x ∈ L))) ∧ Below w.heap.size w w' := by
  go_enter Try.func18, Try.ntmps18
  go_wp2
  go_loopw [5] (fun i wr => ∃ k : Nat, i = .int .i64 k ∧ k ≤ L.length ∧ Below w.heap.size w wr ∧ Hid (∀ j (hj : j < L.length), j < k → L[j] ≠ x)) (fun i _ => L.length - (intOf i).toNat)
  case atStart => exact ⟨0, rfl, Nat.zero_le _, Below.refl _ _, fun j _ h => absurd h (Nat.not_lt_zero j)⟩
  case round =>
    obtain ⟨k, rfl, hk, hB, H⟩ := hrel
    by_cases hkl : k < L.length
    · obtain ⟨b, off, rfl, hb, hc⟩ := (h.below hB) k hkl
      have x0 := hc k hkl
      have HG : Hid (L.getD k 0 = L[k]) := by unfold Hid; simp [hkl]
      generalize L.getD k 0 = y at *
      clear hc
      by_cases hq : y = x
      · have HR : Hid (true = decide (x ∈ L)) := by
          unfold Hid
          rw [← hq, HG.out]
          simp
        clear HG
        subst hq
        go_wp2
        go_ret
        exact ⟨ret_bool HR.out, hB⟩
      · have HN : Hid (∀ j (hj : j < L.length), j < k + 1 → L[j] ≠ x) := fun j hj hjk => by
          rcases Nat.lt_or_ge j k with h1 | h1
          · exact H.out j hj h1
          · have : j = k := by omega
            subst this
            rw [← HG.out]; exact hq
        have hq' : (y == x) = false := by simpa using hq
        go_wp2
        go_roundw
        case rel => exact ⟨k + 1, by go_num, by omega, hB, HN⟩
        case measure => simp [intOf]; omega
    · have HR : Hid (false = decide (x ∈ L)) := by
        unfold Hid
        symm
        rw [decide_eq_false_iff_not]
        intro hx
        obtain ⟨j, hj, e⟩ := List.getElem_of_mem hx
        exact H.out j hj (by omega) e
      go_wp2
      go_ret
      exact ⟨ret_bool HR.out, hB⟩

/-- what is reached from several is what is reached from each. -/
theorem reach_both {l : List Ob} {A B : List Int} (h : checkS l = 0) {i : Int} : i ∈ reachL l (A ++ B) ↔ i ∈ reachL l A ∨ i ∈ reachL l B := by
  constructor
  · refine reachBy_min (fun i => i ∈ reachL l A ∨ i ∈ reachL l B) (fun j hj => ?_) (fun x hx hxr y hy => ?_) i
    · rcases List.mem_append.1 hj with q | q
      · exact .inl (reachBy_sub q)
      · exact .inr (reachBy_sub q)
    · rcases hxr with q | q
      · exact .inl (reachL_closed h A x hx q y hy)
      · exact .inr (reachL_closed h B x hx q y hy)
  · rintro (q | q)
    · exact reachBy_min (fun i => i ∈ reachL l (A ++ B)) (fun j hj => reachBy_sub (by simp [hj])) (reachL_closed h _) i q
    · exact reachBy_min (fun i => i ∈ reachL l (A ++ B)) (fun j hj => reachBy_sub (by simp [hj])) (reachL_closed h _) i q
theorem part_has {l : List Ob} {A : List Int} {x : Ob} (hx : x ∈ l) : x.id ∈ (partL l A).map Ob.id ↔ x.id ∈ reachL l A := by
  rw [List.mem_map]
  constructor
  · rintro ⟨y, hy, e⟩
    rw [← e]; exact (partL_mem.1 hy).2
  · intro q
    exact ⟨x, partL_mem.2 ⟨hx, q⟩, rfl⟩
theorem reachE_both {l : List Ob} {A B : List Int} (h1 : reachE l A = 0) (h2 : reachE l B = 0) : reachE l (A ++ B) = 0 :=
  reachE_mk (reachE_zero h1).1 (fun i hi => (List.mem_append.1 hi).elim (fun q => (reachE_zero h1).2 i q) (fun q => (reachE_zero h2).2 i q))
/-- a tip that is reached anyhow adds nothing. -/
theorem reach_anyhow {l : List Ob} {A : List Int} (h1 : reachE l A = 0) : reachE l (A ++ (partL l A).map Ob.id) = 0 ∧ partL l (A ++ (partL l A).map Ob.id) = partL l A := by
  obtain ⟨hc, ht⟩ := reachE_zero h1
  have hin : ∀ i ∈ (partL l A).map Ob.id, i ∈ reachL l A := fun i hi => by
    obtain ⟨y, hy, e⟩ := List.mem_map.1 hi
    rw [← e]; exact (partL_mem.1 hy).2
  refine ⟨reachE_both h1 (reachE_mk hc fun i hi => reachL_there h1 i (hin i hi)), ?_⟩
  unfold partL
  apply List.filter_congr
  intro x _
  rw [decide_eq_decide]
  show x.id ∈ reachL l (A ++ (partL l A).map Ob.id) ↔ _
  rw [reach_both hc]
  constructor
  · rintro (q | q)
    · exact q
    · exact reachBy_min (fun i => i ∈ reachL l A) hin (reachL_closed hc A) _ q
  · exact .inl
end Go.Proofs.Ytbppoffhpmoplab
