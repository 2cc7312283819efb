import Derived.Test.YtehmlpkapjdhkaaGreatDoorMT9
namespace Go.Proofs.YtehmlpkapjdhkaaGreatDoor
section
open Go.RowKit
set_option maxRecDepth 100000

theorem doE_zero {l : List Rp} {x : Ac} (h : doE l x = 0) : checkC l = 0 ∧ actE x = 0 ∧ dE l x = 0 := by
  unfold doE at h
  split at h
  · rename_i c; exact absurd h c
  · rename_i c
    split at h
    · rename_i d; exact absurd h d
    · rename_i d; exact ⟨Classical.byContradiction c, Classical.byContradiction d, h⟩
/-- how many more an act makes the greatest Gen. -/
def moreI (l : List Rp) (x : Ac) : Int := if x.k = 1 ∧ dT l x = true then 1 else 0
/-- what is so of all that is done. -/
structure Done (l : List Rp) (x : Ac) : Prop where
  right : checkC (dL l x) = 0
  grown : (top (dL l x)).g = (top l).g + moreI l x
  same : moreI l x = 0 → showS (top (dL l x)) = showS (top l)
theorem showS_congr {a b : Rp} (h1 : a.g = b.g) (h2 : a.l = b.l) : showS a = showS b := by unfold showS; rw [h1, h2]
theorem do_done {l : List Rp} {x : Ac} (h : doE l x = 0) : Done l x := by
  obtain ⟨hc, ha, hd⟩ := doE_zero h
  by_cases k1 : x.k = 1
  · have hdT : dT l x = doI l x.m x.us x.f x.up x.la := by unfold dT; rw [if_pos k1]
    have hdL : dL l x = eL l x.m x.us x.f x.up x.la := by unfold dL; rw [if_pos k1]
    have hp : pE l x.m x.us x.f x.up x.la = 0 := by unfold dE at hd; rwa [if_pos k1] at hd
    have P := pushed hp
    have hm : moreI l x = if doI l x.m x.us x.f x.up x.la = true then 1 else 0 := by
      unfold moreI; rw [hdT]; simp [k1]
    refine ⟨by rw [hdL]; exact P.right, by rw [hdL, hm]; exact P.grown, fun h0 => ?_⟩
    rw [hm] at h0
    have hf : doI l x.m x.us x.f x.up x.la = false := by
      cases hq : doI l x.m x.us x.f x.up x.la with
      | false => rfl
      | true => rw [hq] at h0; simp at h0
    rw [hdL, P.same hf]
  · have hdL : dL l x = l3 (updR (rOf l) (oN x) (becR l x)) := by unfold dL; rw [if_neg k1]
    have hb : becE l x = 0 := by unfold dE at hd; rwa [if_neg k1] at hd
    have hm : moreI l x = 0 := by unfold moreI; rw [if_neg (fun e => k1 e.1)]
    have he := (checkC_iff.1 hc).2.1
    rcases actE_zero ha with ⟨q, -⟩ | ⟨-, hk, -, ho, -⟩
    · exact absurd q k1
    have hbe : (becR l x).err = 0 := by
      unfold becE at hb
      unfold becR
      split at hb
      · rename_i k2; rw [if_pos k2]; exact from_right hb
      · rename_i k2; rw [if_neg k2]; exact rep_idle (s := (rOf l (oN x)).s) (l := (rOf l (oN x)).l) (g := (rOf l (oN x)).g) (err_refs hb) (err_gen hb)
    obtain ⟨r1, r2, r3⟩ := put_right hc (updR (rOf l) (oN x) (becR l x)) (fun i hi => by
        unfold updR; split
        · exact hbe
        · exact he i hi) (fun i hi => by
        unfold updR; split
        · rename_i e
          unfold becR; split
          · exact .inr ⟨rfl, rfl⟩
          · rw [e]; exact .inl ⟨rfl, rfl⟩
        · exact .inl ⟨rfl, rfl⟩)
    rw [← hdL] at r1 r2 r3
    exact ⟨r1, by rw [hm, r2]; omega, fun _ => showS_congr r2 r3⟩
theorem stepC_right {l : List Rp} (h : checkC l = 0) (x : Ac) : checkC (stepC l x) = 0 := by
  unfold stepC; split
  · rename_i e; exact (do_done e).right
  · exact h
theorem scrC_right : ∀ (xs : List Ac) {l : List Rp}, checkC l = 0 → checkC (scrC l xs) = 0
  | [], _, h => h
  | x :: xs, _, h => scrC_right xs (stepC_right h x)
theorem scr_take {l : List Rp} {X : List Ac} {k : Nat} (h : k < X.length) : scrC l (X.take (k + 1)) = stepC (scrC l (X.take k)) X[k] := by
  rw [List.take_succ_eq_append_getElem h, scrC_snoc]
theorem scrT_get : ∀ (X : List Ac) (l : List Rp) (k : Nat) (h : k < X.length), (scrT l X)[k]? = some (toldA (scrC l (X.take k)) X[k])
  | [], _, k, h => absurd h (Nat.not_lt_zero k)
  | _ :: _, _, 0, _ => rfl
  | x :: xs, l, k + 1, h => scrT_get xs (stepC l x) k (Nat.lt_of_succ_lt_succ h)
theorem scrE_get : ∀ (X : List Ac) (l : List Rp) (k : Nat) (h : k < X.length), (scrE l X)[k]? = some (doE (scrC l (X.take k)) X[k])
  | [], _, k, h => absurd h (Nat.not_lt_zero k)
  | _ :: _, _, 0, _ => rfl
  | x :: xs, l, k + 1, h => scrE_get xs (stepC l x) k (Nat.lt_of_succ_lt_succ h)
theorem c0_right : checkC c0L = 0 := by decide +kernel
theorem HoldsA.at {w : World} {b off : Nat} {l : List Aq} (h : HoldsA w (some ⟨b, off, none⟩) l) {k : Nat} (hk : k < l.length) : AAt w b (off + k * 7) l[k] ∧ l[k].H w := by
  obtain ⟨b', off', e, _, hc⟩ := h k hk
  cases e; exact hc k hk
theorem HoldsA.some {w : World} {a : Option Addr} {l : List Aq} (h : HoldsA w a l) (hl : 0 < l.length) : ∃ b off, a = some ⟨b, off, none⟩ := by
  obtain ⟨b, off, e, _⟩ := h 0 hl
  exact ⟨b, off, e⟩
/-- Do, in one form. -/
theorem do_uni (q : Aq) (a : Option Addr) (c : Nat) (l : List Rq) (L : List Rp) (hL : l.map Rq.r = L) (h3 : l.length = 3) (w : World) (hg : Glob w) (ht : Tab w) (h : HoldsQ w a l) (hlc : 3 ≤ c) (hcm : c ≤ 9223372036854775807) (hq : q.H w) :
    Calls Tryz.prog 41 #[.agg #[.slice a 3 c], q.x.val q.am q.cm q.au q.cu] w fun e w' => ∃ (aN : Option Addr) (cN : Nat) (qs : List Rq), e = .returned (.tuple #[.agg #[.slice aN qs.length cN], .bool (toldA L q.x), .int .i64 (doE L q.x)]) ∧ Below w.heap.size w w' ∧ Dep w' w.heap.size w'.heap.size (fun W => HoldsQ W aN qs) ∧ Hid (doE L q.x = 0 → qs.map Rq.r = dL L q.x ∧ (∃ B, aN = some ⟨B, 0, none⟩) ∧ (3 ≤ cN ∧ cN ≤ 9223372036854775807) ∧ qs.length = 3) := by
  have hd := do_any q.x a c l q.am q.cm q.au q.cu w hg ht h (by omega) hcm hq.hm hq.hml hq.hu hq.hul
  rw [h3, hL] at hd
  refine hd.mono ?_
  rintro e w' ⟨hb, ⟨hne, rfl⟩ | ⟨hz, B, cap, qs, rfl, hm, hD, h3, hmx⟩⟩
  · refine ⟨none, 0, [], ?_, hb, ⟨Nat.le_refl _, fun _ _ _ i hi => by simp at hi⟩, fun e => absurd e hne⟩
    unfold toldA; rw [if_neg hne]; rfl
  · have hl : qs.length = 3 := rOf_len hm (dL_len _ _)
    refine ⟨some ⟨B, 0, none⟩, cap, qs, ?_, hb, hD, fun _ => ⟨hm, ⟨B, rfl⟩, ⟨h3, hmx⟩, hl⟩⟩
    unfold toldA; rw [if_pos hz, hl, hz]
end

section
open Go.RowKit
set_option maxRecDepth 100000

set_option maxHeartbeats 16000000 in
theorem deskStays_any (a : Option Addr) (c : Nat) (l : List Aq) (w : World) (hg : Glob w) (ht : Tab w) (h : HoldsA w a l) :
    Calls Tryz.prog 10 #[.slice a l.length c] w fun e w' => e = .returned (.bool true) ∧ Below w.heap.size w w' := by
  have hc := deskBegun_any w hg ht
  go_enter Tryz.func10, Tryz.ntmps10
  go_wp2_with fail
  refine hc.mono ?_
  clear hc
  rintro e W1 ⟨rfl, hb1⟩
  have hc := clusterBegun_any W1 (hg.below hb1) (ht.below hb1)
  go_wp2_with fail
  refine hc.mono ?_
  clear hc
  rintro e W2 ⟨rfl, hb2⟩
  have hB2 := hb1.trans (hb2.mono hb1.size)
  have hc := run_any a c l W2 (hg.below hB2) (ht.below hB2) (h.below hB2)
  clear hb1 hb2
  go_wp2_with fail
  refine hc.mono ?_
  clear hc
  rintro e W3 ⟨hb3, ⟨hn, rfl⟩ | ⟨hn, B0, cap0, rs0, v7, v8, rfl, -, -, -, hT, hE⟩⟩
  · have hA := below_alloc W3 (.cells #[.slice none 0 0] 24)
    have hB3 := hB2.trans (hb3.mono hB2.size)
    have hB4 := hB3.trans (hA.mono hB3.size)
    rw [List.length_map] at hn
    have hn' : (12 : Int) < (l.length : Int) := by omega
    clear hA hB3 hb3 hB2 hn
    go_wp2
    go_ret
    exact ⟨rfl, hB4⟩
  rw [List.length_map] at hn hT hE
  obtain ⟨X, hX⟩ : ∃ X, X = l.map Aq.x := ⟨_, rfl⟩
  have hXl : X.length = l.length := by rw [hX, List.length_map]
  have HX : Hid (∀ k (h : k < l.length) (h' : k < X.length), X[k] = l[k].x) := fun k h h' => by subst hX; rw [List.getElem_map]
  rw [← hX] at hT hE
  clear hX
  obtain ⟨a7, c7, rfl⟩ := own_any_slice hT
  obtain ⟨a8, c8, rfl⟩ := own_any_slice hE
  have hB3 := hB2.trans (hb3.mono hB2.size)
  have hA4 := below_alloc W3 (.cells #[.slice (some ⟨B0, 0, none⟩) 3 cap0] 24)
  have hB4 := hB3.trans (hA4.mono hB3.size)
  have hT4 := ownsRow_below hT hA4
  have hE4 := ownsRow_below hE hA4
  clear hT hE hB3 hb3 hB2 hA4
  have hc := new_any (W3.alloc (.cells #[.slice (some ⟨B0, 0, none⟩) 3 cap0] 24))
  go_wp2_with fail
  generalize W3.alloc (.cells #[.slice (some ⟨B0, 0, none⟩) 3 cap0] 24) = W4 at *
  refine hc.mono ?_
  clear hc
  rintro e W5 ⟨b, rfl, hq, hb5⟩
  have hB5 := hB4.trans (hb5.mono hB4.size)
  have hT5 := ownsRow_below hT4 hb5
  have hE5 := ownsRow_below hE4 hb5
  have hA6 := below_alloc W5 (.cells #[.slice (some ⟨b, 0, none⟩) 3 3] 24)
  have k6 := heap_alloc_new W5 (.cells #[.slice (some ⟨b, 0, none⟩) 3 3] 24)
  have hQ6 := hq.below hA6
  clear hT4 hE4 hB4 hb5 hq
  go_wp2_with fail
  generalize W5.alloc (.cells #[.slice (some ⟨b, 0, none⟩) 3 3] 24) = W6 at *
  go_loopw [8] (fun i wr => ∃ (k B cap : Nat) (qs : List Rq), i = .int .i64 k ∧ k ≤ l.length ∧ Below W5.heap.size W5 wr ∧ wr.heap[W5.heap.size]? = some (.cells #[.slice (some ⟨B, 0, none⟩) 3 cap] 24) ∧ (3 ≤ cap ∧ cap ≤ 9223372036854775807) ∧ Hid (qs.map Rq.r = scrC c0L (X.take k)) ∧ HoldsQ wr (some ⟨B, 0, none⟩) qs) (fun i _ => l.length - (intOf i).toNat)
  case atStart => exact ⟨0, b, 3, [q0, q0, q0], rfl, Nat.zero_le _, hA6, k6, by omega, rfl, hQ6⟩
  case round =>
    clear hA6 k6 hQ6
    obtain ⟨k, B, cap, qs, rfl, hk, hbr, kC, hcap, HQL, hQ⟩ := hrel
    have hBr := hB5.trans (hbr.mono hB5.size)
    by_cases hlt : k < l.length
    case neg =>
      have hlt' : ¬ (k : Int) < (l.length : Int) := by omega
      clear hT5 hE5 kC HQL hQ hbr
      go_wp2
      go_ret
      exact ⟨rfl, hBr⟩
    have hlt' : (k : Int) < (l.length : Int) := by omega
    have hXk : k < X.length := by omega
    have hXe : X[k] = l[k].x := HX.out k hlt hXk
    obtain ⟨L, hLd⟩ : ∃ L, L = scrC c0L (X.take k) := ⟨_, rfl⟩
    have HC : Hid (checkC L = 0) := by rw [hLd]; exact scrC_right _ c0_right
    have hL3 : L.length = 3 := by rw [hLd]; exact scrC_len _ rfl
    have HS : Hid (scrC c0L (X.take (k + 1)) = stepC L l[k].x) := by unfold Hid; rw [scr_take hXk, hXe, ← hLd]
    have HTG : Hid ((scrT c0L X)[k]? = some (toldA L l[k].x)) := by rw [hLd, ← hXe]; exact scrT_get X c0L k hXk
    have HEG : Hid ((scrE c0L X)[k]? = some (doE L l[k].x)) := by rw [hLd, ← hXe]; exact scrE_get X c0L k hXk
    rw [← hLd] at HQL
    clear hLd hXe
    have hq3 : qs.length = 3 := rOf_len HQL.out hL3
    obtain ⟨al, ol, rfl⟩ := h.some (by omega)
    obtain ⟨g7, d7, e7⟩ := own_form hT5 (by omega)
    cases e7
    obtain ⟨g8, d8, e8⟩ := own_form hE5 (by omega)
    cases e8
    have hTr := ownsRow_below hT5 hbr
    have hEr := ownsRow_below hE5 hbr
    have hgr := hg.below hBr
    have htr := ht.below hBr
    have hLr := h.below hBr
    have aH := (hLr.at hlt).2
    have y1 := c1_of kC
    go_upto_region 12 with fail
    clear y1
    go_cut [9, 10, 11] from 63 to 73 (fun s9 s10 s11 wx => ∃ (p z y : Nat) (aN : Option Addr) (cN : Nat) (rs : List Rq), s9 = .pointer (some ⟨p, 0, none⟩) ∧ s10 = .bool (toldA L l[k].x) ∧ s11 = .int .i64 (doE L l[k].x) ∧ Below wr.heap.size wr wx ∧ wx.heap[p]? = some (.cells #[.slice aN rs.length cN] 24) ∧ wr.heap.size ≤ z ∧ wr.heap.size ≤ p ∧ Dep wx z y (fun W => HoldsQ W aN rs) ∧ Hid (doE L l[k].x = 0 → rs.map Rq.r = dL L l[k].x ∧ (∃ B, aN = some ⟨B, 0, none⟩) ∧ (3 ≤ cN ∧ cN ≤ 9223372036854775807) ∧ rs.length = 3))
    case first =>
      have hB0 := Below.refl wr.heap.size wr
      have hzC := heap_lt kC
      have hd_1 := below_refl_drew wr
      have hB_2 := hB0.trans (hd_1.mono hB0.size)
      have C_3 := (hd_1.block _ (heap_lt kC)).trans kC
      have hs_4 := hd_1.size
      clear kC hd_1 hB0
      refine wp_region_E (fun W => (W.heap[W5.heap.size]? = some (.cells #[.slice (some ⟨B, 0, none⟩) 3 cap] 24)) ∧ (HoldsA W (some ⟨al, ol, none⟩) l)) (fun _ => false) (by kernel_rfl) ⟨C_3, (hLr.below hB_2)⟩ (fun hS => ?_)
      clear hS
      generalize wr.drew = W_5 at *
      refine wpAnyE.take (i := 0) (v := ?_) rfl (by kernel_rfl) (by kernel_rfl) (by kernel_rfl) (by kernel_rfl) (fun _ _ _ h => h) (Or.inl ⟨by rfl, ?_⟩) ⟨C_3, (hLr.below hB_2)⟩ ?_
      rotate_left
      · intro w hSw; obtain ⟨s1, s2⟩ := hSw; have e1 := c1_of s1; obtain ⟨v0, v1, v2, v3, v4, v5, v6⟩ := (s2.at hlt).1; clear s1 s2; go_simp; with_reducible rfl
      try simp only [Act.put, uA, uC, uD, uE, uF]
      refine wpAnyE.take (i := 1) (v := ?_) rfl (by kernel_rfl) (by kernel_rfl) (by kernel_rfl) (by kernel_rfl) (fun _ _ _ h => h) (Or.inl ⟨by rfl, ?_⟩) ⟨C_3, (hLr.below hB_2)⟩ ?_
      rotate_left
      · intro w hSw; obtain ⟨s1, s2⟩ := hSw; have e1 := c1_of s1; obtain ⟨v0, v1, v2, v3, v4, v5, v6⟩ := (s2.at hlt).1; clear s1 s2; go_simp; with_reducible rfl
      try simp only [Act.put, uA, uB, uC, uD, uE, uF]
      refine wpAnyE.take (i := 2) (v := ?_) rfl (by kernel_rfl) (by kernel_rfl) (by kernel_rfl) (by kernel_rfl) (fun _ _ _ h => h) (Or.inl ⟨by rfl, ?_⟩) ⟨C_3, (hLr.below hB_2)⟩ ?_
      rotate_left
      · intro w hSw; obtain ⟨s1, s2⟩ := hSw; have e1 := c1_of s1; obtain ⟨v0, v1, v2, v3, v4, v5, v6⟩ := (s2.at hlt).1; clear s1 s2; go_simp; with_reducible rfl
      try simp only [Act.put, uA, uB, uC, uD, uE, uF]
      refine wpAnyE.take (i := 3) (v := ?_) rfl (by kernel_rfl) (by kernel_rfl) (by kernel_rfl) (by kernel_rfl) (fun _ _ _ h => h) (Or.inl ⟨by rfl, ?_⟩) ⟨C_3, (hLr.below hB_2)⟩ ?_
      rotate_left
      · intro w hSw; obtain ⟨s1, s2⟩ := hSw; have e1 := c1_of s1; obtain ⟨v0, v1, v2, v3, v4, v5, v6⟩ := (s2.at hlt).1; clear s1 s2; go_simp; with_reducible rfl
      try simp only [Act.put, uA, uB, uC, uD, uE, uF]
      refine wpAnyE.take (i := 4) (v := ?_) rfl (by kernel_rfl) (by kernel_rfl) (by kernel_rfl) (by kernel_rfl) (fun _ _ _ h => h) (Or.inl ⟨by rfl, ?_⟩) ⟨C_3, (hLr.below hB_2)⟩ ?_
      rotate_left
      · intro w hSw; obtain ⟨s1, s2⟩ := hSw; have e1 := c1_of s1; obtain ⟨v0, v1, v2, v3, v4, v5, v6⟩ := (s2.at hlt).1; clear s1 s2; go_simp; with_reducible rfl
      try simp only [Act.put, uA, uB, uC, uD, uE, uF]
      refine wpAnyE.two (i := 5) (j := 10) (by kernel_rfl) rfl rfl (fun K hK => ?_) (fun K hK => ?_)
      · skip
        have hc_6 := do_uni l[k] (some ⟨B, 0, none⟩) cap qs L HQL.out hq3 _ (hgr.below hB_2) (htr.below hB_2) (hQ.below hB_2) hcap.1 hcap.2 (aH.below hB_2)
        go_simp
        refine hc_6.mono ?_
        clear hc_6
        rintro e W_7 ⟨aN, cN, rs, rfl, h, hD, HU⟩
        have hB_8 := hB_2.trans (h.mono hB_2.size)
        have C_9 := (h.block _ (heap_lt C_3)).trans C_3
        have hs_10 := h.size
        clear C_3 h hB_2
        refine hK _ _ (fun _ => ⟨C_9, (hLr.below hB_8)⟩) ?_
        clear hK K
        try simp only [Act.put, uA, uB, uC, uD, uE, uF]
        refine wpAnyE.take (i := 6) (v := ?_) rfl (by kernel_rfl) (by kernel_rfl) (by kernel_rfl) (by kernel_rfl) (fun _ _ _ h => h) (Or.inl ⟨by rfl, ?_⟩) ⟨C_9, (hLr.below hB_8)⟩ ?_
        rotate_left
        · intro w hSw; obtain ⟨s1, s2⟩ := hSw; have e1 := c1_of s1; obtain ⟨v0, v1, v2, v3, v4, v5, v6⟩ := (s2.at hlt).1; clear s1 s2; go_simp; with_reducible rfl
        try simp only [Act.put, uA, uB, uC, uD, uE, uF]
        refine wpAnyE.take (i := 7) (v := ?_) rfl (by kernel_rfl) (by kernel_rfl) (by kernel_rfl) (by kernel_rfl) (fun _ _ _ h => h) (Or.inl ⟨by rfl, ?_⟩) ⟨C_9, (hLr.below hB_8)⟩ ?_
        rotate_left
        · intro w hSw; obtain ⟨s1, s2⟩ := hSw; have e1 := c1_of s1; obtain ⟨v0, v1, v2, v3, v4, v5, v6⟩ := (s2.at hlt).1; clear s1 s2; go_simp; with_reducible rfl
        try simp only [Act.put, uA, uB, uC, uD, uE, uF]
        refine wpAnyE.take (i := 8) (v := ?_) rfl (by kernel_rfl) (by kernel_rfl) (by kernel_rfl) (by kernel_rfl) (fun _ _ _ h => h) (Or.inl ⟨by rfl, ?_⟩) ⟨C_9, (hLr.below hB_8)⟩ ?_
        rotate_left
        · intro w hSw; obtain ⟨s1, s2⟩ := hSw; have e1 := c1_of s1; obtain ⟨v0, v1, v2, v3, v4, v5, v6⟩ := (s2.at hlt).1; clear s1 s2; go_simp; with_reducible rfl
        try simp only [Act.put, uA, uB, uC, uD, uE, uF]
        refine wpAnyE.take (i := 9) (v := ?_) rfl (by kernel_rfl) (by kernel_rfl) (by kernel_rfl) (by kernel_rfl) (fun _ _ _ h => h) (Or.inl ⟨by rfl, ?_⟩) ⟨C_9, (hLr.below hB_8)⟩ ?_
        rotate_left
        · intro w hSw; obtain ⟨s1, s2⟩ := hSw; have e1 := c1_of s1; obtain ⟨v0, v1, v2, v3, v4, v5, v6⟩ := (s2.at hlt).1; clear s1 s2; go_simp; with_reducible rfl
        try simp only [Act.put, uA, uB, uC, uD, uE, uF]
        refine wpAnyE.one (i := 10) (by kernel_rfl) rfl (fun K hK => ?_)
        go_simp
        have hA_11 := below_alloc W_7 (.cells #[.slice none 0 0] 24)
        have T_12 := heap_alloc_new W_7 (.cells #[.slice none 0 0] 24)
        have hz_14 : W_7.heap.size < (W_7.alloc (.cells #[.slice none 0 0] 24)).heap.size := by simp
        generalize W_7.alloc (.cells #[.slice none 0 0] 24) = W_13 at *
        have hB_15 := hB_8.trans (hA_11.mono hB_8.size)
        have C_16 := (hA_11.block _ (heap_lt C_9)).trans C_9
        have X_17 := hD.below hA_11
        have hs_18 := hA_11.size
        clear C_9 hD hA_11 hB_8
        refine hK _ _ (fun _ => ⟨C_16, (hLr.below hB_15)⟩) ?_
        clear hK K
        try simp only [Act.put, uA, uB, uC, uD, uE, uF]
        refine wpAnyE.one (i := 11) (by kernel_rfl) rfl (fun K hK => ?_)
        have f_20 := f_of (o := 0) T_12
        have z_19 := c1_of T_12
        have s_21 := heap_setCell_same W_13 (W_7.heap.size) 0 _ _ (.slice aN rs.length cN) T_12
        have hB_22 : Below _ _ (W_13.setCell ⟨W_7.heap.size, 0, none⟩ (.slice aN rs.length cN)) := hB_15.setCell (by have := hB_15.size; show _ ≤ W_7.heap.size; omega) _
        have C_24 := (heap_setCell_other W_13 ⟨W_7.heap.size, 0, none⟩ (W5.heap.size) (.slice aN rs.length cN) (by show W5.heap.size ≠ W_7.heap.size; omega)).trans C_16
        have X_25 := X_17.set (p := W_7.heap.size) (o := 0) (v := .slice aN rs.length cN) (by omega)
        have hz_26 : W_13.heap.size ≤ (W_13.setCell ⟨W_7.heap.size, 0, none⟩ (.slice aN rs.length cN)).heap.size := setcell_size _ _ _
        go_simp
        generalize (W_13.setCell ⟨W_7.heap.size, 0, none⟩ (.slice aN rs.length cN)) = W_23 at *
        clear z_19 f_20 C_16 T_12 X_17 hB_15
        simp only [List.setIfInBounds_toArray, List.set_cons_zero] at s_21
        refine hK _ _ (fun _ => ⟨C_24, (hLr.below hB_22)⟩) ?_
        clear hK K
        try simp only [Act.put, uA, uB, uC, uD, uE, uF]
        refine wpAnyE.one (i := 12) (by kernel_rfl) rfl (fun K hK => ?_)
        go_simp
        refine hK _ _ (fun _ => ⟨C_24, (hLr.below hB_22)⟩) ?_
        clear hK K
        try simp only [Act.put, uA, uB, uC, uD, uE, uF]
        refine wpAnyE.one (i := 13) (by kernel_rfl) rfl (fun K hK => ?_)
        go_simp
        refine hK _ _ (fun _ => ⟨C_24, (hLr.below hB_22)⟩) ?_
        clear hK K
        try simp only [Act.put, uA, uB, uC, uD, uE, uF]
        refine wpAnyE.done (by kernel_rfl) ?_
        go_wp2
        go_meet
        case rel => exact ⟨_, _, _, aN, cN, rs, rfl, rfl, rfl, hB_22, s_21, by omega, by omega, X_25, HU⟩
      · skip
        go_simp
        have hA_27 := below_alloc W_5 (.cells #[.slice none 0 0] 24)
        have T_28 := heap_alloc_new W_5 (.cells #[.slice none 0 0] 24)
        have hz_30 : W_5.heap.size < (W_5.alloc (.cells #[.slice none 0 0] 24)).heap.size := by simp
        generalize W_5.alloc (.cells #[.slice none 0 0] 24) = W_29 at *
        have hB_31 := hB_2.trans (hA_27.mono hB_2.size)
        have C_32 := (hA_27.block _ (heap_lt C_3)).trans C_3
        have hs_33 := hA_27.size
        clear C_3 hA_27 hB_2
        refine hK _ _ (fun _ => ⟨C_32, (hLr.below hB_31)⟩) ?_
        clear hK K
        try simp only [Act.put, uA, uB, uC, uD, uE, uF]
        refine wpAnyE.one (i := 5) (by kernel_rfl) rfl (fun K hK => ?_)
        have hc_34 := do_uni l[k] (some ⟨B, 0, none⟩) cap qs L HQL.out hq3 _ (hgr.below hB_31) (htr.below hB_31) (hQ.below hB_31) hcap.1 hcap.2 (aH.below hB_31)
        go_simp
        refine hc_34.mono ?_
        clear hc_34
        rintro e W_35 ⟨aN, cN, rs, rfl, h, hD, HU⟩
        have hB_36 := hB_31.trans (h.mono hB_31.size)
        have C_37 := (h.block _ (heap_lt C_32)).trans C_32
        have T_38 := (h.block _ (heap_lt T_28)).trans T_28
        have hs_39 := h.size
        clear C_32 T_28 h hB_31
        refine hK _ _ (fun _ => ⟨C_37, (hLr.below hB_36)⟩) ?_
        clear hK K
        try simp only [Act.put, uA, uB, uC, uD, uE, uF]
        refine wpAnyE.take (i := 6) (v := ?_) rfl (by kernel_rfl) (by kernel_rfl) (by kernel_rfl) (by kernel_rfl) (fun _ _ _ h => h) (Or.inl ⟨by rfl, ?_⟩) ⟨C_37, (hLr.below hB_36)⟩ ?_
        rotate_left
        · intro w hSw; obtain ⟨s1, s2⟩ := hSw; have e1 := c1_of s1; obtain ⟨v0, v1, v2, v3, v4, v5, v6⟩ := (s2.at hlt).1; clear s1 s2; go_simp; with_reducible rfl
        try simp only [Act.put, uA, uB, uC, uD, uE, uF]
        refine wpAnyE.take (i := 7) (v := ?_) rfl (by kernel_rfl) (by kernel_rfl) (by kernel_rfl) (by kernel_rfl) (fun _ _ _ h => h) (Or.inl ⟨by rfl, ?_⟩) ⟨C_37, (hLr.below hB_36)⟩ ?_
        rotate_left
        · intro w hSw; obtain ⟨s1, s2⟩ := hSw; have e1 := c1_of s1; obtain ⟨v0, v1, v2, v3, v4, v5, v6⟩ := (s2.at hlt).1; clear s1 s2; go_simp; with_reducible rfl
        try simp only [Act.put, uA, uB, uC, uD, uE, uF]
        refine wpAnyE.take (i := 8) (v := ?_) rfl (by kernel_rfl) (by kernel_rfl) (by kernel_rfl) (by kernel_rfl) (fun _ _ _ h => h) (Or.inl ⟨by rfl, ?_⟩) ⟨C_37, (hLr.below hB_36)⟩ ?_
        rotate_left
        · intro w hSw; obtain ⟨s1, s2⟩ := hSw; have e1 := c1_of s1; obtain ⟨v0, v1, v2, v3, v4, v5, v6⟩ := (s2.at hlt).1; clear s1 s2; go_simp; with_reducible rfl
        try simp only [Act.put, uA, uB, uC, uD, uE, uF]
        refine wpAnyE.take (i := 9) (v := ?_) rfl (by kernel_rfl) (by kernel_rfl) (by kernel_rfl) (by kernel_rfl) (fun _ _ _ h => h) (Or.inl ⟨by rfl, ?_⟩) ⟨C_37, (hLr.below hB_36)⟩ ?_
        rotate_left
        · intro w hSw; obtain ⟨s1, s2⟩ := hSw; have e1 := c1_of s1; obtain ⟨v0, v1, v2, v3, v4, v5, v6⟩ := (s2.at hlt).1; clear s1 s2; go_simp; with_reducible rfl
        try simp only [Act.put, uA, uB, uC, uD, uE, uF]
        refine wpAnyE.one (i := 11) (by kernel_rfl) rfl (fun K hK => ?_)
        have f_41 := f_of (o := 0) T_38
        have z_40 := c1_of T_38
        have s_42 := heap_setCell_same W_35 (W_5.heap.size) 0 _ _ (.slice aN rs.length cN) T_38
        have hB_43 : Below _ _ (W_35.setCell ⟨W_5.heap.size, 0, none⟩ (.slice aN rs.length cN)) := hB_36.setCell (by have := hB_36.size; show _ ≤ W_5.heap.size; omega) _
        have C_45 := (heap_setCell_other W_35 ⟨W_5.heap.size, 0, none⟩ (W5.heap.size) (.slice aN rs.length cN) (by show W5.heap.size ≠ W_5.heap.size; omega)).trans C_37
        have X_46 := hD.set (p := W_5.heap.size) (o := 0) (v := .slice aN rs.length cN) (by omega)
        have hz_47 : W_35.heap.size ≤ (W_35.setCell ⟨W_5.heap.size, 0, none⟩ (.slice aN rs.length cN)).heap.size := setcell_size _ _ _
        go_simp
        generalize (W_35.setCell ⟨W_5.heap.size, 0, none⟩ (.slice aN rs.length cN)) = W_44 at *
        clear z_40 f_41 C_37 T_38 hD hB_36
        simp only [List.setIfInBounds_toArray, List.set_cons_zero] at s_42
        refine hK _ _ (fun _ => ⟨C_45, (hLr.below hB_43)⟩) ?_
        clear hK K
        try simp only [Act.put, uA, uB, uC, uD, uE, uF]
        refine wpAnyE.one (i := 12) (by kernel_rfl) rfl (fun K hK => ?_)
        go_simp
        refine hK _ _ (fun _ => ⟨C_45, (hLr.below hB_43)⟩) ?_
        clear hK K
        try simp only [Act.put, uA, uB, uC, uD, uE, uF]
        refine wpAnyE.one (i := 13) (by kernel_rfl) rfl (fun K hK => ?_)
        go_simp
        refine hK _ _ (fun _ => ⟨C_45, (hLr.below hB_43)⟩) ?_
        clear hK K
        try simp only [Act.put, uA, uB, uC, uD, uE, uF]
        refine wpAnyE.done (by kernel_rfl) ?_
        go_wp2
        go_meet
        case rel => exact ⟨_, _, _, aN, cN, rs, rfl, rfl, rfl, hB_43, s_42, by omega, by omega, X_46, HU⟩
    case rest =>
      obtain ⟨p, z, y, aN, cN, rs, rfl, rfl, rfl, hbc, kP, hz, hp, hD, HU⟩ := hcut
      have hTc := own_cell (ownsRow_below hTr hbc) k (.bool (toldA L l[k].x)) (by rw [List.getElem?_map, HTG.out]; rfl)
      have hEc := own_cell (ownsRow_below hEr hbc) k (.int .i64 (doE L l[k].x)) (by rw [List.getElem?_map, HEG.out]; rfl)
      have kC1 := (hbc.block _ (heap_lt kC)).trans kC
      have hQ1 := hQ.below hbc
      have hBc := hBr.trans (hbc.mono hBr.size)
      have hbrc := hbr.trans (hbc.mono hbr.size)
      have hzC := heap_lt kC
      have b1 : (doE L l[k].x != doE L l[k].x) = false := by simp
      have b2 : (toldA L l[k].x != toldA L l[k].x) = false := by simp
      clear hTr hEr HTG HEG hbc kC hQ hBr hbr hgr htr aH hLr hT5 hE5
      by_cases hz0 : doE L l[k].x = 0
      case neg =>
        have q1 : (doE L l[k].x != 0) = true := by simpa using hz0
        have HQ' : Hid (qs.map Rq.r = scrC c0L (X.take (k + 1))) := by unfold Hid; rw [HS.out, HQL.out]; unfold stepC; rw [if_neg hz0]
        clear HU hD HS HC hz0
        generalize doE L l[k].x = E at *
        generalize toldA L l[k].x = T at *
        go_wp2
        go_roundw
        case rel => exact ⟨k + 1, B, cap, qs, by go_num, by omega, hbrc, kC1, hcap, HQ', hQ1⟩
        case measure => simp [intOf]; omega
      have HD : Hid (Done L l[k].x) := do_done hz0
      have HT : Hid (toldA L l[k].x = dT L l[k].x) := by unfold Hid toldA; rw [if_pos hz0]
      obtain ⟨hmr, ⟨B', rfl⟩, hcap', hr3⟩ := HU.out hz0
      have HQ' : Hid (rs.map Rq.r = scrC c0L (X.take (k + 1))) := by unfold Hid; rw [HS.out, hmr]; unfold stepC; rw [if_pos hz0]
      have HMR : Hid (rs.map Rq.r = dL L l[k].x) := hmr
      have HCR : Hid (checkC (rs.map Rq.r) = 0) := by unfold Hid; rw [hmr]; exact HD.out.right
      rw [hz0] at hEc
      rw [hz0]
      rw [hr3] at kP
      clear HU HS hmr b1 hz0
      generalize hTd : toldA L l[k].x = T at *
      have Cc0 := c1_of kC1
      have Pc0 := c1_of kP
      have hc_1 := show_any (some ⟨B, 0, none⟩) cap qs wc (hg.below hBc) (ht.below hBc) hQ1 (by omega) hcap.2
      rw [hq3, HQL.out] at hc_1
      go_wp2_with fail
      refine hc_1.mono ?_
      clear hc_1
      rintro e Wa ⟨h1, ⟨hno, -⟩ | ⟨-, rfl⟩⟩
      · exact absurd HC.out hno
      have hB_2 := hBc.trans (h1.mono hBc.size)
      have C_3 := (h1.block _ (heap_lt kC1)).trans kC1
      have P_4 := (h1.block _ (heap_lt kP)).trans kP
      have X_5 := hD.below h1
      have Q_6 := hQ1.below h1
      have hb_7 := hbrc.trans (h1.mono hbrc.size)
      have hs_8 := h1.size
      clear kC1 kP hD hQ1 hbrc h1 hBc hTc hEc b2 Cc0 Pc0
      have Cc0 := c1_of C_3
      have Pc0 := c1_of P_4
      have hc_9 := show_any (some ⟨B', 0, none⟩) cN rs Wa (hg.below hB_2) (ht.below hB_2) X_5.here (by omega) hcap'.2
      rw [hr3] at hc_9
      go_wp2_with fail
      refine hc_9.mono ?_
      clear hc_9
      rintro e Wb ⟨h2, ⟨hno, -⟩ | ⟨-, rfl⟩⟩
      · exact absurd HCR.out hno
      have hB_10 := hB_2.trans (h2.mono hB_2.size)
      have C_11 := (h2.block _ (heap_lt C_3)).trans C_3
      have P_12 := (h2.block _ (heap_lt P_4)).trans P_4
      have X_13 := X_5.below h2
      have Q_14 := Q_6.below h2
      have hb_15 := hb_7.trans (h2.mono hb_7.size)
      have hs_16 := h2.size
      clear C_3 P_4 X_5 Q_6 hb_7 h2 hB_2 Cc0 Pc0
      have Cc0 := c1_of C_11
      have Pc0 := c1_of P_12
      have hc_17 := newestC_any (some ⟨B', 0, none⟩) cN rs Wb (hg.below hB_10) X_13.here (by omega) hcap'.2
      rw [hr3, HCR.out] at hc_17
      go_wp2_with fail
      refine hc_17.mono ?_
      clear hc_17
      rintro e Wc ⟨n, rfl, hn, h3⟩
      have hB_18 := hB_10.trans (h3.mono hB_10.size)
      have C_19 := (h3.block _ (heap_lt C_11)).trans C_11
      have P_20 := (h3.block _ (heap_lt P_12)).trans P_12
      have X_21 := X_13.below h3
      have Q_22 := Q_14.below h3
      have hb_23 := hb_15.trans (h3.mono hb_15.size)
      have hs_24 := h3.size
      clear C_11 P_12 X_13 Q_14 hb_15 h3 hB_10 Cc0 Pc0
      have Cc0 := c1_of C_19
      have Pc0 := c1_of P_20
      have hc_25 := newestC_any (some ⟨B, 0, none⟩) cap qs Wc (hg.below hB_18) Q_22 (by omega) hcap.2
      rw [hq3, show checkC (qs.map Rq.r) = 0 from HQL.out.symm ▸ HC.out] at hc_25
      go_wp2_with fail
      refine hc_25.mono ?_
      clear hc_25
      rintro e Wd ⟨m, rfl, hm, h4⟩
      have hB_26 := hB_18.trans (h4.mono hB_18.size)
      have C_27 := (h4.block _ (heap_lt C_19)).trans C_19
      have P_28 := (h4.block _ (heap_lt P_20)).trans P_20
      have X_29 := X_21.below h4
      have Q_30 := Q_22.below h4
      have hb_31 := hb_23.trans (h4.mono hb_23.size)
      have hs_32 := h4.size
      clear C_19 P_20 X_21 Q_22 hb_23 h4 hB_18 Cc0 Pc0
      have hnb : n = bestI (dL L l[k].x) := by
        have := hn.out (by first | trivial | rfl)
        rw [gs_map, HMR.out] at this
        unfold bestI; rw [dL_len]; exact this
      have hmb : m = bestI L := by
        have := hm.out (by first | trivial | rfl)
        rw [gs_map, HQL.out] at this
        unfold bestI; rw [hL3]; exact this
      have hn3 : n < 3 := by rw [hnb]; exact bestI_lt (dL_len _ _)
      have hm3 : m < 3 := by rw [hmb]; exact bestI_lt hL3
      have hn1 : n < rs.length := by omega
      have hm1 : m < qs.length := by omega
      obtain ⟨D, hDd⟩ : ∃ D, D = moreI L l[k].x := ⟨_, rfl⟩
      obtain ⟨S1, hS1⟩ : ∃ S, S = showS (top L) := ⟨_, rfl⟩
      obtain ⟨S2, hS2⟩ : ∃ S, S = showS (top (rs.map Rq.r)) := ⟨_, rfl⟩
      have HSS : Hid (D = 0 → S2 = S1) := fun e => by rw [hS2, hS1, HMR.out]; exact HD.out.same (hDd ▸ e)
      have HDC : Hid ((l[k].x.k = 1 ∧ T = true ∧ D = 1) ∨ (l[k].x.k = 1 ∧ T = false ∧ D = 0) ∨ (l[k].x.k ≠ 1 ∧ D = 0)) := by
        have hm : D = if l[k].x.k = 1 ∧ T = true then 1 else 0 := by rw [hDd, HT.out]; rfl
        unfold Hid
        clear HT hDd
        by_cases k1 : l[k].x.k = 1
        · cases T with
          | true => exact .inl ⟨k1, rfl, by rw [hm, if_pos ⟨k1, rfl⟩]⟩
          | false => exact .inr (.inl ⟨k1, rfl, by rw [hm, if_neg (fun e => by cases e.2)]⟩)
        · exact .inr (.inr ⟨k1, by rw [hm, if_neg (fun e => k1 e.1)]⟩)
      have hgx : rs[n].r.g = qs[m].r.g + D := by
        rw [rOf_q HMR.out hn1, rOf_q HQL.out hm1, hDd, hnb, hmb]; exact HD.out.grown
      have hge := err_gen ((checkC_iff.1 HC.out).2.1 m hm3)
      rw [← rOf_q HQL.out hm1] at hge
      have hw : IntKind.i64.wrap (rs[n].r.g - qs[m].r.g) = D := by
        have hd : D = 0 ∨ D = 1 := by rcases HDC.out with ⟨-, -, e⟩ | ⟨-, -, e⟩ | ⟨-, e⟩ <;> omega
        rw [hgx]; rcases hd with rfl | rfl <;> simp [IntKind.wrap, IntKind.bits, IntKind.signed] <;> omega
      rw [← hS1, ← hS2]
      have hn3' : (n : Int) < 3 := by omega
      have hn0 : ¬ (n : Int) < 0 := by omega
      have hnge : ¬ (3 : Int) ≤ (n : Int) := by omega
      have hm3' : (m : Int) < 3 := by omega
      have hm0 : ¬ (m : Int) < 0 := by omega
      have hmge : ¬ (3 : Int) ≤ (m : Int) := by omega
      clear hn hm hnb hmb hDd hS1 hS2 hgx hge HD HT HMR HCR
      have Cc0 := c1_of C_27
      have Pc0 := c1_of P_28
      go_upto_region 22 with fail
      clear Cc0 Pc0
      have hd_33 := below_refl_drew Wd
      have hB_34 := hB_26.trans (hd_33.mono hB_26.size)
      have C_35 := (hd_33.block _ (heap_lt C_27)).trans C_27
      have P_36 := (hd_33.block _ (heap_lt P_28)).trans P_28
      have X_37 := X_29.below hd_33
      have Q_38 := Q_30.below hd_33
      have hb_39 := hb_31.trans (hd_33.mono hb_31.size)
      have hs_40 := hd_33.size
      clear C_27 P_28 X_29 Q_30 hb_31 hd_33 hB_26
      refine wp_region_E (fun W => (W.heap[W5.heap.size]? = some (.cells #[.slice (some ⟨B, 0, none⟩) 3 cap] 24)) ∧ (W.heap[p]? = some (.cells #[.slice (some ⟨B', 0, none⟩) 3 cN] 24)) ∧ (HoldsQ W (some ⟨B', 0, none⟩) rs) ∧ (HoldsQ W (some ⟨B, 0, none⟩) qs)) (fun _ => false) (by kernel_rfl) ⟨C_35, P_36, X_37.here, Q_38⟩ (fun hS => ?_)
      clear hS
      generalize Wd.drew = W_41 at *
      refine wpAnyE.take (i := 0) (v := ?_) rfl (by kernel_rfl) (by kernel_rfl) (by kernel_rfl) (by kernel_rfl) (fun _ _ _ h => h) (Or.inl ⟨by rfl, ?_⟩) ⟨C_35, P_36, X_37.here, Q_38⟩ ?_
      rotate_left
      · intro w hSw; obtain ⟨s1, s2, s3, s4⟩ := hSw; have e1 := c1_of s1; have e2 := c1_of s2; have x2 := (s3.at hn1).1.x2; have u2 := (s4.at hm1).1.x2; simp only [Nat.zero_add] at x2 u2; clear s1 s2 s3 s4; have hw := hw; go_simp; with_reducible rfl
      try simp only [Act.put, uA, uC, uD, uE, uF]
      refine wpAnyE.take (i := 2) (v := ?_) rfl (by kernel_rfl) (by kernel_rfl) (by kernel_rfl) (by kernel_rfl) (fun _ _ _ h => h) (Or.inl ⟨by rfl, ?_⟩) ⟨C_35, P_36, X_37.here, Q_38⟩ ?_
      rotate_left
      · intro w hSw; obtain ⟨s1, s2, s3, s4⟩ := hSw; have e1 := c1_of s1; have e2 := c1_of s2; have x2 := (s3.at hn1).1.x2; have u2 := (s4.at hm1).1.x2; simp only [Nat.zero_add] at x2 u2; clear s1 s2 s3 s4; have hw := hw; go_simp; with_reducible rfl
      try simp only [Act.put, uA, uB, uC, uD, uE, uF]
      refine wpAnyE.take (i := 6) (v := ?_) rfl (by kernel_rfl) (by kernel_rfl) (by kernel_rfl) (by kernel_rfl) (fun _ _ _ h => h) (Or.inl ⟨by rfl, ?_⟩) ⟨C_35, P_36, X_37.here, Q_38⟩ ?_
      rotate_left
      · intro w hSw; obtain ⟨s1, s2, s3, s4⟩ := hSw; have e1 := c1_of s1; have e2 := c1_of s2; have x2 := (s3.at hn1).1.x2; have u2 := (s4.at hm1).1.x2; simp only [Nat.zero_add] at x2 u2; clear s1 s2 s3 s4; have hw := hw; go_simp; with_reducible rfl
      try simp only [Act.put, uA, uB, uC, uD, uE, uF]
      refine wpAnyE.take (i := 8) (v := ?_) rfl (by kernel_rfl) (by kernel_rfl) (by kernel_rfl) (by kernel_rfl) (fun _ _ _ h => h) (Or.inl ⟨by rfl, ?_⟩) ⟨C_35, P_36, X_37.here, Q_38⟩ ?_
      rotate_left
      · intro w hSw; obtain ⟨s1, s2, s3, s4⟩ := hSw; have e1 := c1_of s1; have e2 := c1_of s2; have x2 := (s3.at hn1).1.x2; have u2 := (s4.at hm1).1.x2; simp only [Nat.zero_add] at x2 u2; clear s1 s2 s3 s4; have hw := hw; go_simp; with_reducible rfl
      try simp only [Act.put, uA, uB, uC, uD, uE, uF]
      refine wpAnyE.take (i := 1) (v := ?_) rfl (by kernel_rfl) (by kernel_rfl) (by kernel_rfl) (by kernel_rfl) (fun _ _ _ h => h) (Or.inl ⟨by rfl, ?_⟩) ⟨C_35, P_36, X_37.here, Q_38⟩ ?_
      rotate_left
      · intro w hSw; obtain ⟨s1, s2, s3, s4⟩ := hSw; have e1 := c1_of s1; have e2 := c1_of s2; have x2 := (s3.at hn1).1.x2; have u2 := (s4.at hm1).1.x2; simp only [Nat.zero_add] at x2 u2; clear s1 s2 s3 s4; have hw := hw; go_simp; with_reducible rfl
      try simp only [Act.put, uA, uB, uC, uD, uE, uF]
      refine wpAnyE.take (i := 7) (v := ?_) rfl (by kernel_rfl) (by kernel_rfl) (by kernel_rfl) (by kernel_rfl) (fun _ _ _ h => h) (Or.inl ⟨by rfl, ?_⟩) ⟨C_35, P_36, X_37.here, Q_38⟩ ?_
      rotate_left
      · intro w hSw; obtain ⟨s1, s2, s3, s4⟩ := hSw; have e1 := c1_of s1; have e2 := c1_of s2; have x2 := (s3.at hn1).1.x2; have u2 := (s4.at hm1).1.x2; simp only [Nat.zero_add] at x2 u2; clear s1 s2 s3 s4; have hw := hw; go_simp; with_reducible rfl
      try simp only [Act.put, uA, uB, uC, uD, uE, uF]
      refine wpAnyE.take (i := 3) (v := ?_) rfl (by kernel_rfl) (by kernel_rfl) (by kernel_rfl) (by kernel_rfl) (fun _ _ _ h => h) (Or.inl ⟨by rfl, ?_⟩) ⟨C_35, P_36, X_37.here, Q_38⟩ ?_
      rotate_left
      · intro w hSw; obtain ⟨s1, s2, s3, s4⟩ := hSw; have e1 := c1_of s1; have e2 := c1_of s2; have x2 := (s3.at hn1).1.x2; have u2 := (s4.at hm1).1.x2; simp only [Nat.zero_add] at x2 u2; clear s1 s2 s3 s4; have hw := hw; go_simp; with_reducible rfl
      try simp only [Act.put, uA, uB, uC, uD, uE, uF]
      refine wpAnyE.take (i := 9) (v := ?_) rfl (by kernel_rfl) (by kernel_rfl) (by kernel_rfl) (by kernel_rfl) (fun _ _ _ h => h) (Or.inl ⟨by rfl, ?_⟩) ⟨C_35, P_36, X_37.here, Q_38⟩ ?_
      rotate_left
      · intro w hSw; obtain ⟨s1, s2, s3, s4⟩ := hSw; have e1 := c1_of s1; have e2 := c1_of s2; have x2 := (s3.at hn1).1.x2; have u2 := (s4.at hm1).1.x2; simp only [Nat.zero_add] at x2 u2; clear s1 s2 s3 s4; have hw := hw; go_simp; with_reducible rfl
      try simp only [Act.put, uA, uB, uC, uD, uE, uF]
      refine wpAnyE.take (i := 4) (v := ?_) rfl (by kernel_rfl) (by kernel_rfl) (by kernel_rfl) (by kernel_rfl) (fun _ _ _ h => h) (Or.inl ⟨by rfl, ?_⟩) ⟨C_35, P_36, X_37.here, Q_38⟩ ?_
      rotate_left
      · intro w hSw; obtain ⟨s1, s2, s3, s4⟩ := hSw; have e1 := c1_of s1; have e2 := c1_of s2; have x2 := (s3.at hn1).1.x2; have u2 := (s4.at hm1).1.x2; simp only [Nat.zero_add] at x2 u2; clear s1 s2 s3 s4; have hw := hw; go_simp; with_reducible rfl
      try simp only [Act.put, uA, uB, uC, uD, uE, uF]
      refine wpAnyE.take (i := 10) (v := ?_) rfl (by kernel_rfl) (by kernel_rfl) (by kernel_rfl) (by kernel_rfl) (fun _ _ _ h => h) (Or.inl ⟨by rfl, ?_⟩) ⟨C_35, P_36, X_37.here, Q_38⟩ ?_
      rotate_left
      · intro w hSw; obtain ⟨s1, s2, s3, s4⟩ := hSw; have e1 := c1_of s1; have e2 := c1_of s2; have x2 := (s3.at hn1).1.x2; have u2 := (s4.at hm1).1.x2; simp only [Nat.zero_add] at x2 u2; clear s1 s2 s3 s4; have hw := hw; go_simp; with_reducible rfl
      try simp only [Act.put, uA, uB, uC, uD, uE, uF]
      refine wpAnyE.take (i := 5) (v := ?_) rfl (by kernel_rfl) (by kernel_rfl) (by kernel_rfl) (by kernel_rfl) (fun _ _ _ h => h) (Or.inl ⟨by rfl, ?_⟩) ⟨C_35, P_36, X_37.here, Q_38⟩ ?_
      rotate_left
      · intro w hSw; obtain ⟨s1, s2, s3, s4⟩ := hSw; have e1 := c1_of s1; have e2 := c1_of s2; have x2 := (s3.at hn1).1.x2; have u2 := (s4.at hm1).1.x2; simp only [Nat.zero_add] at x2 u2; clear s1 s2 s3 s4; have hw := hw; go_simp; with_reducible rfl
      try simp only [Act.put, uA, uB, uC, uD, uE, uF]
      refine wpAnyE.take (i := 11) (v := ?_) rfl (by kernel_rfl) (by kernel_rfl) (by kernel_rfl) (by kernel_rfl) (fun _ _ _ h => h) (Or.inl ⟨by rfl, ?_⟩) ⟨C_35, P_36, X_37.here, Q_38⟩ ?_
      rotate_left
      · intro w hSw; obtain ⟨s1, s2, s3, s4⟩ := hSw; have e1 := c1_of s1; have e2 := c1_of s2; have x2 := (s3.at hn1).1.x2; have u2 := (s4.at hm1).1.x2; simp only [Nat.zero_add] at x2 u2; clear s1 s2 s3 s4; have hw := hw; go_simp; with_reducible rfl
      try simp only [Act.put, uA, uB, uC, uD, uE, uF]
      refine wpAnyE.take (i := 12) (v := ?_) rfl (by kernel_rfl) (by kernel_rfl) (by kernel_rfl) (by kernel_rfl) (fun _ _ _ h => h) (Or.inl ⟨by rfl, ?_⟩) ⟨C_35, P_36, X_37.here, Q_38⟩ ?_
      rotate_left
      · intro w hSw; obtain ⟨s1, s2, s3, s4⟩ := hSw; have e1 := c1_of s1; have e2 := c1_of s2; have x2 := (s3.at hn1).1.x2; have u2 := (s4.at hm1).1.x2; simp only [Nat.zero_add] at x2 u2; clear s1 s2 s3 s4; have hw := hw; go_simp; with_reducible rfl
      try simp only [Act.put, uA, uB, uC, uD, uE, uF]
      refine wpAnyE.one (i := 13) (by kernel_rfl) rfl (fun K hK => ?_)
      go_simp
      refine hK _ _ (fun _ => ⟨C_35, P_36, X_37.here, Q_38⟩) ?_
      clear hK K
      try simp only [Act.put, uA, uB, uC, uD, uE, uF]
      refine wpAnyE.done (by kernel_rfl) ?_
      have f_42 := f_of (o := 0) C_35
      have Cc0 := c1_of C_35
      have Pc0 := c1_of P_36
      have HN : Hid (∃ (k' B cap : Nat) (qs : List Rq), k' = k + 1 ∧ Below W5.heap.size W5 (W_41.setCell ⟨W5.heap.size, 0, none⟩ (.slice (some ⟨B', 0, none⟩) 3 cN)) ∧ (W_41.setCell ⟨W5.heap.size, 0, none⟩ (.slice (some ⟨B', 0, none⟩) 3 cN)).heap[W5.heap.size]? = some (.cells #[.slice (some ⟨B, 0, none⟩) 3 cap] 24) ∧ (3 ≤ cap ∧ cap ≤ 9223372036854775807) ∧ Hid (qs.map Rq.r = scrC c0L (X.take k')) ∧ HoldsQ (W_41.setCell ⟨W5.heap.size, 0, none⟩ (.slice (some ⟨B', 0, none⟩) 3 cN)) (some ⟨B, 0, none⟩) qs) := ⟨k + 1, B', cN, rs, rfl, hb_39.setCell (Nat.le_refl _) _, c1_set C_35, hcap', HQ', (X_37.set (p := W5.heap.size) (o := 0) (v := .slice (some ⟨B', 0, none⟩) 3 cN) (.inl (by omega))).here⟩
      obtain ⟨⟨v0, v1, v2, v3, v4, v5, v6⟩, -⟩ := (h.below hB_34).at hlt
      clear X_37 hb_39 C_35 P_36 Q_38 HQ' v1 v2 v3 v4 v5 v6
      rcases HDC.out with ⟨k1, rfl, rfl⟩ | ⟨k1, rfl, rfl⟩ | ⟨k1, rfl⟩
      · skip
        rw [k1] at v0
        clear HDC HSS hw k1
        go_wp2
        go_roundw
        case rel => obtain ⟨k', B, cap, qs, rfl, q1, q2, q3, q4, q5⟩ := HN.out; exact ⟨k + 1, B, cap, qs, by go_num, by omega, q1, q2, q3, q4, q5⟩
        case measure => simp [intOf]; omega
      · skip
        rw [k1] at v0
        obtain rfl : S2 = S1 := HSS.out rfl
        clear HDC HSS hw k1
        go_wp2
        go_roundw
        case rel => obtain ⟨k', B, cap, qs, rfl, q1, q2, q3, q4, q5⟩ := HN.out; exact ⟨k + 1, B, cap, qs, by go_num, by omega, q1, q2, q3, q4, q5⟩
        case measure => simp [intOf]; omega
      · skip
        have kb : (l[k].x.k == 1) = false := by simpa using k1
        obtain rfl : S2 = S1 := HSS.out rfl
        clear HDC HSS hw k1
        go_wp2
        go_roundw
        case rel => obtain ⟨k', B, cap, qs, rfl, q1, q2, q3, q4, q5⟩ := HN.out; exact ⟨k + 1, B, cap, qs, by go_num, by omega, q1, q2, q3, q4, q5⟩
        case measure => simp [intOf]; omega
end
end Go.Proofs.YtehmlpkapjdhkaaGreatDoor
