import Derived.Test.YtehmlpkapjdhkaaGreatDoorMT1
import Derived.Test.YtehmlpkapjdhkaaGreatDoorMX9
namespace Go.Proofs.YtehmlpkapjdhkaaGreatDoor
section
open Go.RowKit
set_option maxRecDepth 100000

theorem Dep.wide {w : World} {z y y' : Nat} {P : World → Prop} (h : Dep w z y P) (hy : y ≤ y') (hw : y' ≤ w.heap.size) : Dep w z y' P :=
  ⟨hw, fun w' hs hk => h.2 w' (Nat.le_trans hy hs) (fun k a b => hk k a (Nat.lt_of_lt_of_le b hy))⟩
theorem c1_set {w : World} {L t : Nat} {v u : Value} (h : w.heap[L]? = some (.cells #[v] t)) : (w.setCell ⟨L, 0, none⟩ u).heap[L]? = some (.cells #[u] t) := by
  have := heap_setCell_same w L 0 _ t u h
  simpa using this
/-- what a push of a cluster hands back, in one form. -/
theorem push_uni (x : Ac) (a : Option Addr) (c : Nat) (l : List Rq) (am : Option Addr) (cm : Nat) (au : Option Addr) (cu : Nat) (w : World) (hg : Glob w) (ht : Tab w) (h : HoldsQ w a l) (hlc : l.length ≤ c) (hcm : c ≤ 9223372036854775807)
    (hm : HoldsS w am x.m) (hml : x.m.length ≤ 9223372036854775807) (hu : HoldsU w au x.us) (hul : x.us.length ≤ 9223372036854775807) :
    Calls Tryz.prog 11 #[.agg #[.slice a l.length c], pushV am x.m.length cm au x.us.length cu x.f, .int .i64 x.up, .int .i64 x.la] w fun e w' => ∃ (aN : Option Addr) (cN : Nat) (dN : Bool) (qs : List Rq), e = .returned (.tuple #[.agg #[.slice aN qs.length cN], .bool dN, .int .i64 (pE (l.map Rq.r) x.m x.us x.f x.up x.la)]) ∧ Below w.heap.size w w' ∧ Dep w' w.heap.size w'.heap.size (fun W => HoldsQ W aN qs) ∧ Hid ((pE (l.map Rq.r) x.m x.us x.f x.up x.la) = 0 → qs.map Rq.r = (eL (l.map Rq.r) x.m x.us x.f x.up x.la) ∧ dN = (doI (l.map Rq.r) x.m x.us x.f x.up x.la) ∧ (∃ B, aN = some ⟨B, 0, none⟩) ∧ qs.length ≤ cN ∧ cN ≤ 9223372036854775807 ∧ qs.length = 3) ∧ Hid (¬ (pE (l.map Rq.r) x.m x.us x.f x.up x.la) = 0 → dN = false) := by
  refine (push_any a c l am cm x.m au cu x.us x.f x.up x.la w hg ht h hlc hcm hm hml hu hul).mono ?_
  rintro e w' ⟨hb, ⟨hne, rfl⟩ | ⟨hz, B, cap, qs, rfl, hq, hD, h3, hmx⟩⟩
  · exact ⟨none, 0, false, [], rfl, hb, ⟨Nat.le_refl _, fun _ _ _ i hi => by simp at hi⟩, fun e => absurd e hne, fun _ => rfl⟩
  · have hl : qs.length = 3 := by have := congrArg List.length hq; simpa [eL] using this
    refine ⟨some ⟨B, 0, none⟩, cap, _, qs, ?_, hb, hD, fun _ => ⟨hq, rfl, ⟨B, rfl⟩, by omega, hmx, hl⟩, fun e => absurd hz e⟩
    rw [hl, hz]

set_option maxHeartbeats 8000000 in
theorem clerkPush_any (w0 : World) (L : Nat) (x : Ac) (a : Option Addr) (c : Nat) (l : List Rq) (am : Option Addr) (cm : Nat) (au : Option Addr) (cu : Nat) (w : World) (hb0 : Below w0.heap.size w0 w) (hLz : w0.heap.size ≤ L) (hL : w.heap[L]? = some (.cells #[.slice a l.length c] 138)) (hg : Glob w) (ht : Tab w) (h : HoldsQ w a l) (hlc : l.length ≤ c) (hcm : c ≤ 9223372036854775807)
    (hm : HoldsS w am x.m) (hml : x.m.length ≤ 9223372036854775807) (hu : HoldsU w au x.us) (hul : x.us.length ≤ 9223372036854775807) :
    Calls Tryz.prog 153 #[.pointer (some ⟨L, 0, none⟩), x.val am cm au cu] w fun e w' => ∃ (aN : Option Addr) (cN : Nat) (dN : Bool) (qs : List Rq), e = .returned (.tuple #[.bool dN, .int .i64 (pE (l.map Rq.r) x.m x.us x.f x.up x.la)]) ∧ Below w0.heap.size w0 w' ∧ w'.heap[L]? = some (.cells #[.slice aN qs.length cN] 138) ∧ w.heap.size ≤ w'.heap.size ∧ Dep w' w.heap.size w'.heap.size (fun W => HoldsQ W aN qs) ∧ Hid ((pE (l.map Rq.r) x.m x.us x.f x.up x.la) = 0 → qs.map Rq.r = (eL (l.map Rq.r) x.m x.us x.f x.up x.la) ∧ dN = (doI (l.map Rq.r) x.m x.us x.f x.up x.la) ∧ (∃ B, aN = some ⟨B, 0, none⟩) ∧ qs.length ≤ cN ∧ cN ≤ 9223372036854775807 ∧ qs.length = 3) ∧ Hid (¬ (pE (l.map Rq.r) x.m x.us x.f x.up x.la) = 0 → dN = false) := by
  obtain ⟨PO, HPO⟩ : ∃ P : Ending → World → Prop, Hid (∀ e w', P e w' ↔ ∃ (aN : Option Addr) (cN : Nat) (dN : Bool) (qs : List Rq), e = .returned (.tuple #[.bool dN, .int .i64 (pE (l.map Rq.r) x.m x.us x.f x.up x.la)]) ∧ Below w0.heap.size w0 w' ∧ w'.heap[L]? = some (.cells #[.slice aN qs.length cN] 138) ∧ w.heap.size ≤ w'.heap.size ∧ Dep w' w.heap.size w'.heap.size (fun W => HoldsQ W aN qs) ∧ Hid ((pE (l.map Rq.r) x.m x.us x.f x.up x.la) = 0 → qs.map Rq.r = (eL (l.map Rq.r) x.m x.us x.f x.up x.la) ∧ dN = (doI (l.map Rq.r) x.m x.us x.f x.up x.la) ∧ (∃ B, aN = some ⟨B, 0, none⟩) ∧ qs.length ≤ cN ∧ cN ≤ 9223372036854775807 ∧ qs.length = 3) ∧ Hid (¬ (pE (l.map Rq.r) x.m x.us x.f x.up x.la) = 0 → dN = false)) := ⟨_, fun _ _ => Iff.rfl⟩
  suffices hs : Calls Tryz.prog 153 #[.pointer (some ⟨L, 0, none⟩), x.val am cm au cu] w PO from hs.mono (fun e w' q => (HPO.out e w').1 q)
  have hLw := heap_lt hL
  have hA := below_alloc w (x.blk am cm au cu)
  have kA := heap_alloc_new w (x.blk am cm au cu)
  have kK := (hA.block _ hLw).trans hL
  go_enter Tryz.func153, Tryz.ntmps153
  go_upto_region 1 with fail
  have hsz : w.heap.size < (w.alloc (x.blk am cm au cu)).heap.size := heap_lt kA
  generalize w.alloc (x.blk am cm au cu) = W1 at *
  have hd_1 := below_refl_drew W1
  have hB_2 := hA.trans (hd_1.mono hA.size)
  have K_3 := (hd_1.block _ (heap_lt kK)).trans kK
  have A_4 := (hd_1.block _ (heap_lt kA)).trans kA
  have hs_5 := hd_1.size
  clear kK kA hd_1 hA
  refine wp_region_E (fun W => (W.heap[L]? = some (.cells #[.slice a l.length c] 138)) ∧ (W.heap[w.heap.size]? = some (.cells #[.int .i64 x.k, .int .i64 x.o, .int .i64 x.up, .int .i64 x.la, .slice am x.m.length cm, .slice au x.us.length cu, .bool x.f] 81))) (fun _ => false) (by kernel_rfl) ⟨K_3, A_4⟩ (fun hS => ?_)
  clear hS
  generalize W1.drew = W_6 at *
  refine wpAnyE.take (i := 0) (v := ?_) rfl (by kernel_rfl) (by kernel_rfl) (by kernel_rfl) (by kernel_rfl) (fun _ _ _ h => h) (Or.inl ⟨by rfl, ?_⟩) ⟨K_3, A_4⟩ ?_
  rotate_left
  · intro w hSw; obtain ⟨sK, sA⟩ := hSw; have k0 := c1_of sK; obtain ⟨a0, a1, a2, a3, a4, a5, a6⟩ := c7_of sA; go_simp; with_reducible rfl
  try simp only [Act.put, uA, uC, uD, uE, uF]
  refine wpAnyE.take (i := 4) (v := ?_) rfl (by kernel_rfl) (by kernel_rfl) (by kernel_rfl) (by kernel_rfl) (fun _ _ _ h => h) (Or.inl ⟨by rfl, ?_⟩) ⟨K_3, A_4⟩ ?_
  rotate_left
  · intro w hSw; obtain ⟨sK, sA⟩ := hSw; have k0 := c1_of sK; obtain ⟨a0, a1, a2, a3, a4, a5, a6⟩ := c7_of sA; go_simp; with_reducible rfl
  try simp only [Act.put, uA, uB, uC, uD, uE, uF]
  refine wpAnyE.take (i := 6) (v := ?_) rfl (by kernel_rfl) (by kernel_rfl) (by kernel_rfl) (by kernel_rfl) (fun _ _ _ h => h) (Or.inl ⟨by rfl, ?_⟩) ⟨K_3, A_4⟩ ?_
  rotate_left
  · intro w hSw; obtain ⟨sK, sA⟩ := hSw; have k0 := c1_of sK; obtain ⟨a0, a1, a2, a3, a4, a5, a6⟩ := c7_of sA; go_simp; with_reducible rfl
  try simp only [Act.put, uA, uB, uC, uD, uE, uF]
  refine wpAnyE.take (i := 8) (v := ?_) rfl (by kernel_rfl) (by kernel_rfl) (by kernel_rfl) (by kernel_rfl) (fun _ _ _ h => h) (Or.inl ⟨by rfl, ?_⟩) ⟨K_3, A_4⟩ ?_
  rotate_left
  · intro w hSw; obtain ⟨sK, sA⟩ := hSw; have k0 := c1_of sK; obtain ⟨a0, a1, a2, a3, a4, a5, a6⟩ := c7_of sA; go_simp; with_reducible rfl
  try simp only [Act.put, uA, uB, uC, uD, uE, uF]
  refine wpAnyE.take (i := 1) (v := ?_) rfl (by kernel_rfl) (by kernel_rfl) (by kernel_rfl) (by kernel_rfl) (fun _ _ _ h => h) (Or.inl ⟨by rfl, ?_⟩) ⟨K_3, A_4⟩ ?_
  rotate_left
  · intro w hSw; obtain ⟨sK, sA⟩ := hSw; have k0 := c1_of sK; obtain ⟨a0, a1, a2, a3, a4, a5, a6⟩ := c7_of sA; go_simp; with_reducible rfl
  try simp only [Act.put, uA, uB, uC, uD, uE, uF]
  refine wpAnyE.take (i := 5) (v := ?_) rfl (by kernel_rfl) (by kernel_rfl) (by kernel_rfl) (by kernel_rfl) (fun _ _ _ h => h) (Or.inl ⟨by rfl, ?_⟩) ⟨K_3, A_4⟩ ?_
  rotate_left
  · intro w hSw; obtain ⟨sK, sA⟩ := hSw; have k0 := c1_of sK; obtain ⟨a0, a1, a2, a3, a4, a5, a6⟩ := c7_of sA; go_simp; with_reducible rfl
  try simp only [Act.put, uA, uB, uC, uD, uE, uF]
  refine wpAnyE.take (i := 7) (v := ?_) rfl (by kernel_rfl) (by kernel_rfl) (by kernel_rfl) (by kernel_rfl) (fun _ _ _ h => h) (Or.inl ⟨by rfl, ?_⟩) ⟨K_3, A_4⟩ ?_
  rotate_left
  · intro w hSw; obtain ⟨sK, sA⟩ := hSw; have k0 := c1_of sK; obtain ⟨a0, a1, a2, a3, a4, a5, a6⟩ := c7_of sA; go_simp; with_reducible rfl
  try simp only [Act.put, uA, uB, uC, uD, uE, uF]
  refine wpAnyE.take (i := 9) (v := ?_) rfl (by kernel_rfl) (by kernel_rfl) (by kernel_rfl) (by kernel_rfl) (fun _ _ _ h => h) (Or.inl ⟨by rfl, ?_⟩) ⟨K_3, A_4⟩ ?_
  rotate_left
  · intro w hSw; obtain ⟨sK, sA⟩ := hSw; have k0 := c1_of sK; obtain ⟨a0, a1, a2, a3, a4, a5, a6⟩ := c7_of sA; go_simp; with_reducible rfl
  try simp only [Act.put, uA, uB, uC, uD, uE, uF]
  refine wpAnyE.take (i := 2) (v := ?_) rfl (by kernel_rfl) (by kernel_rfl) (by kernel_rfl) (by kernel_rfl) (fun _ _ _ h => h) (Or.inl ⟨by rfl, ?_⟩) ⟨K_3, A_4⟩ ?_
  rotate_left
  · intro w hSw; obtain ⟨sK, sA⟩ := hSw; have k0 := c1_of sK; obtain ⟨a0, a1, a2, a3, a4, a5, a6⟩ := c7_of sA; go_simp; with_reducible rfl
  try simp only [Act.put, uA, uB, uC, uD, uE, uF]
  refine wpAnyE.take (i := 3) (v := ?_) rfl (by kernel_rfl) (by kernel_rfl) (by kernel_rfl) (by kernel_rfl) (fun _ _ _ h => h) (Or.inl ⟨by rfl, ?_⟩) ⟨K_3, A_4⟩ ?_
  rotate_left
  · intro w hSw; obtain ⟨sK, sA⟩ := hSw; have k0 := c1_of sK; obtain ⟨a0, a1, a2, a3, a4, a5, a6⟩ := c7_of sA; go_simp; with_reducible rfl
  try simp only [Act.put, uA, uB, uC, uD, uE, uF]
  refine wpAnyE.two (i := 10) (j := 15) (by kernel_rfl) rfl rfl (fun K hK => ?_) (fun K hK => ?_)
  · skip
    have hc_7 := push_uni x a c l am cm au cu _ (hg.below hB_2) (ht.below hB_2) (h.below hB_2) hlc hcm (hm.below hB_2) hml (hu.below hB_2) hul
    go_simp
    refine hc_7.mono ?_
    clear hc_7
    rintro e W_8 ⟨aN, cN, dN, qs, rfl, h, hD, HX, HY⟩
    have hB_9 := hB_2.trans (h.mono hB_2.size)
    have K_10 := (h.block _ (heap_lt K_3)).trans K_3
    have A_11 := (h.block _ (heap_lt A_4)).trans A_4
    have hs_12 := h.size
    clear K_3 A_4 h hB_2
    refine hK _ _ (fun _ => ⟨K_10, A_11⟩) ?_
    clear hK K
    try simp only [Act.put, uA, uB, uC, uD, uE, uF]
    refine wpAnyE.take (i := 11) (v := ?_) rfl (by kernel_rfl) (by kernel_rfl) (by kernel_rfl) (by kernel_rfl) (fun _ _ _ h => h) (Or.inl ⟨by rfl, ?_⟩) ⟨K_10, A_11⟩ ?_
    rotate_left
    · intro w hSw; obtain ⟨sK, sA⟩ := hSw; have k0 := c1_of sK; obtain ⟨a0, a1, a2, a3, a4, a5, a6⟩ := c7_of sA; go_simp; with_reducible rfl
    try simp only [Act.put, uA, uB, uC, uD, uE, uF]
    refine wpAnyE.take (i := 12) (v := ?_) rfl (by kernel_rfl) (by kernel_rfl) (by kernel_rfl) (by kernel_rfl) (fun _ _ _ h => h) (Or.inl ⟨by rfl, ?_⟩) ⟨K_10, A_11⟩ ?_
    rotate_left
    · intro w hSw; obtain ⟨sK, sA⟩ := hSw; have k0 := c1_of sK; obtain ⟨a0, a1, a2, a3, a4, a5, a6⟩ := c7_of sA; go_simp; with_reducible rfl
    try simp only [Act.put, uA, uB, uC, uD, uE, uF]
    refine wpAnyE.take (i := 13) (v := ?_) rfl (by kernel_rfl) (by kernel_rfl) (by kernel_rfl) (by kernel_rfl) (fun _ _ _ h => h) (Or.inl ⟨by rfl, ?_⟩) ⟨K_10, A_11⟩ ?_
    rotate_left
    · intro w hSw; obtain ⟨sK, sA⟩ := hSw; have k0 := c1_of sK; obtain ⟨a0, a1, a2, a3, a4, a5, a6⟩ := c7_of sA; go_simp; with_reducible rfl
    try simp only [Act.put, uA, uB, uC, uD, uE, uF]
    refine wpAnyE.take (i := 14) (v := ?_) rfl (by kernel_rfl) (by kernel_rfl) (by kernel_rfl) (by kernel_rfl) (fun _ _ _ h => h) (Or.inl ⟨by rfl, ?_⟩) ⟨K_10, A_11⟩ ?_
    rotate_left
    · intro w hSw; obtain ⟨sK, sA⟩ := hSw; have k0 := c1_of sK; obtain ⟨a0, a1, a2, a3, a4, a5, a6⟩ := c7_of sA; go_simp; with_reducible rfl
    try simp only [Act.put, uA, uB, uC, uD, uE, uF]
    refine wpAnyE.one (i := 15) (by kernel_rfl) rfl (fun K hK => ?_)
    go_simp
    have hA_13 := below_alloc W_8 (.cells #[.slice none 0 0] 24)
    have T_14 := heap_alloc_new W_8 (.cells #[.slice none 0 0] 24)
    have hz_16 : W_8.heap.size < (W_8.alloc (.cells #[.slice none 0 0] 24)).heap.size := by simp
    generalize W_8.alloc (.cells #[.slice none 0 0] 24) = W_15 at *
    have hB_17 := hB_9.trans (hA_13.mono hB_9.size)
    have K_18 := (hA_13.block _ (heap_lt K_10)).trans K_10
    have A_19 := (hA_13.block _ (heap_lt A_11)).trans A_11
    have QA_20 := hD.below hA_13
    have hs_21 := hA_13.size
    clear K_10 A_11 hD hA_13 hB_9
    refine hK _ _ (fun _ => ⟨K_18, A_19⟩) ?_
    clear hK K
    try simp only [Act.put, uA, uB, uC, uD, uE, uF]
    refine wpAnyE.one (i := 16) (by kernel_rfl) rfl (fun K hK => ?_)
    have f_23 := f_of (o := 0) T_14
    have z_22 := c1_of T_14
    have s_24 := heap_setCell_same W_15 (W_8.heap.size) 0 _ _ (.slice aN qs.length cN) T_14
    have hB_25 : Below _ _ (W_15.setCell ⟨W_8.heap.size, 0, none⟩ (.slice aN qs.length cN)) := hB_17.setCell (by have := hB_17.size; show _ ≤ W_8.heap.size; omega) _
    have K_27 := (heap_setCell_other W_15 ⟨W_8.heap.size, 0, none⟩ (L) (.slice aN qs.length cN) (by show L ≠ W_8.heap.size; omega)).trans K_18
    have A_28 := (heap_setCell_other W_15 ⟨W_8.heap.size, 0, none⟩ (w.heap.size) (.slice aN qs.length cN) (by show w.heap.size ≠ W_8.heap.size; omega)).trans A_19
    have QA_29 := QA_20.set (p := W_8.heap.size) (o := 0) (v := .slice aN qs.length cN) (by omega)
    have hz_30 : W_15.heap.size ≤ (W_15.setCell ⟨W_8.heap.size, 0, none⟩ (.slice aN qs.length cN)).heap.size := setcell_size _ _ _
    go_simp
    generalize (W_15.setCell ⟨W_8.heap.size, 0, none⟩ (.slice aN qs.length cN)) = W_26 at *
    clear z_22 f_23 K_18 A_19 T_14 QA_20 hB_17
    simp only [List.setIfInBounds_toArray, List.set_cons_zero] at s_24
    refine hK _ _ (fun _ => ⟨K_27, A_28⟩) ?_
    clear hK K
    try simp only [Act.put, uA, uB, uC, uD, uE, uF]
    refine wpAnyE.one (i := 17) (by kernel_rfl) rfl (fun K hK => ?_)
    go_simp
    refine hK _ _ (fun _ => ⟨K_27, A_28⟩) ?_
    clear hK K
    try simp only [Act.put, uA, uB, uC, uD, uE, uF]
    refine wpAnyE.one (i := 18) (by kernel_rfl) rfl (fun K hK => ?_)
    go_simp
    refine hK _ _ (fun _ => ⟨K_27, A_28⟩) ?_
    clear hK K
    try simp only [Act.put, uA, uB, uC, uD, uE, uF]
    refine wpAnyE.done (by kernel_rfl) ?_
    have f_31 := f_of (o := 0) K_27
    have Kc0 := c1_of K_27
    have Tc0 := c1_of s_24
    have h_32 := c1_set (u := .slice aN qs.length cN) K_27
    have hb_33 : Below w0.heap.size w0 (W_26.setCell ⟨L, 0, none⟩ (.slice aN qs.length cN)) := (hb0.trans (hB_25.mono hb0.size)).setCell hLz _
    have hd_34 := ((QA_29.set (p := L) (o := 0) (v := .slice aN qs.length cN) (.inl (by omega))).wide (y' := (W_26.setCell ⟨L, 0, none⟩ (.slice aN qs.length cN)).heap.size) (by rw [World.size_setCell]; omega) (Nat.le_refl _)).widen (z' := w.heap.size) (by omega)
    have HF : Hid (PO (.returned (.tuple #[.bool dN, .int .i64 (pE (l.map Rq.r) x.m x.us x.f x.up x.la)])) (W_26.setCell ⟨L, 0, none⟩ (.slice aN qs.length cN))) := (HPO.out _ _).2 ⟨aN, cN, dN, qs, rfl, hb_33, h_32, by rw [World.size_setCell]; exact hB_25.size, hd_34, HX, HY⟩
    clear hb_33 h_32 hd_34 QA_29 HX HY
    go_wp2
    exact HF.out
  · skip
    go_simp
    have hA_35 := below_alloc W_6 (.cells #[.slice none 0 0] 24)
    have T_36 := heap_alloc_new W_6 (.cells #[.slice none 0 0] 24)
    have hz_38 : W_6.heap.size < (W_6.alloc (.cells #[.slice none 0 0] 24)).heap.size := by simp
    generalize W_6.alloc (.cells #[.slice none 0 0] 24) = W_37 at *
    have hB_39 := hB_2.trans (hA_35.mono hB_2.size)
    have K_40 := (hA_35.block _ (heap_lt K_3)).trans K_3
    have A_41 := (hA_35.block _ (heap_lt A_4)).trans A_4
    have hs_42 := hA_35.size
    clear K_3 A_4 hA_35 hB_2
    refine hK _ _ (fun _ => ⟨K_40, A_41⟩) ?_
    clear hK K
    try simp only [Act.put, uA, uB, uC, uD, uE, uF]
    refine wpAnyE.one (i := 10) (by kernel_rfl) rfl (fun K hK => ?_)
    have hc_43 := push_uni x a c l am cm au cu _ (hg.below hB_39) (ht.below hB_39) (h.below hB_39) hlc hcm (hm.below hB_39) hml (hu.below hB_39) hul
    go_simp
    refine hc_43.mono ?_
    clear hc_43
    rintro e W_44 ⟨aN, cN, dN, qs, rfl, h, hD, HX, HY⟩
    have hB_45 := hB_39.trans (h.mono hB_39.size)
    have K_46 := (h.block _ (heap_lt K_40)).trans K_40
    have A_47 := (h.block _ (heap_lt A_41)).trans A_41
    have T_48 := (h.block _ (heap_lt T_36)).trans T_36
    have hs_49 := h.size
    clear K_40 A_41 T_36 h hB_39
    refine hK _ _ (fun _ => ⟨K_46, A_47⟩) ?_
    clear hK K
    try simp only [Act.put, uA, uB, uC, uD, uE, uF]
    refine wpAnyE.take (i := 11) (v := ?_) rfl (by kernel_rfl) (by kernel_rfl) (by kernel_rfl) (by kernel_rfl) (fun _ _ _ h => h) (Or.inl ⟨by rfl, ?_⟩) ⟨K_46, A_47⟩ ?_
    rotate_left
    · intro w hSw; obtain ⟨sK, sA⟩ := hSw; have k0 := c1_of sK; obtain ⟨a0, a1, a2, a3, a4, a5, a6⟩ := c7_of sA; go_simp; with_reducible rfl
    try simp only [Act.put, uA, uB, uC, uD, uE, uF]
    refine wpAnyE.take (i := 12) (v := ?_) rfl (by kernel_rfl) (by kernel_rfl) (by kernel_rfl) (by kernel_rfl) (fun _ _ _ h => h) (Or.inl ⟨by rfl, ?_⟩) ⟨K_46, A_47⟩ ?_
    rotate_left
    · intro w hSw; obtain ⟨sK, sA⟩ := hSw; have k0 := c1_of sK; obtain ⟨a0, a1, a2, a3, a4, a5, a6⟩ := c7_of sA; go_simp; with_reducible rfl
    try simp only [Act.put, uA, uB, uC, uD, uE, uF]
    refine wpAnyE.take (i := 13) (v := ?_) rfl (by kernel_rfl) (by kernel_rfl) (by kernel_rfl) (by kernel_rfl) (fun _ _ _ h => h) (Or.inl ⟨by rfl, ?_⟩) ⟨K_46, A_47⟩ ?_
    rotate_left
    · intro w hSw; obtain ⟨sK, sA⟩ := hSw; have k0 := c1_of sK; obtain ⟨a0, a1, a2, a3, a4, a5, a6⟩ := c7_of sA; go_simp; with_reducible rfl
    try simp only [Act.put, uA, uB, uC, uD, uE, uF]
    refine wpAnyE.take (i := 14) (v := ?_) rfl (by kernel_rfl) (by kernel_rfl) (by kernel_rfl) (by kernel_rfl) (fun _ _ _ h => h) (Or.inl ⟨by rfl, ?_⟩) ⟨K_46, A_47⟩ ?_
    rotate_left
    · intro w hSw; obtain ⟨sK, sA⟩ := hSw; have k0 := c1_of sK; obtain ⟨a0, a1, a2, a3, a4, a5, a6⟩ := c7_of sA; go_simp; with_reducible rfl
    try simp only [Act.put, uA, uB, uC, uD, uE, uF]
    refine wpAnyE.one (i := 16) (by kernel_rfl) rfl (fun K hK => ?_)
    have f_51 := f_of (o := 0) T_48
    have z_50 := c1_of T_48
    have s_52 := heap_setCell_same W_44 (W_6.heap.size) 0 _ _ (.slice aN qs.length cN) T_48
    have hB_53 : Below _ _ (W_44.setCell ⟨W_6.heap.size, 0, none⟩ (.slice aN qs.length cN)) := hB_45.setCell (by have := hB_45.size; show _ ≤ W_6.heap.size; omega) _
    have K_55 := (heap_setCell_other W_44 ⟨W_6.heap.size, 0, none⟩ (L) (.slice aN qs.length cN) (by show L ≠ W_6.heap.size; omega)).trans K_46
    have A_56 := (heap_setCell_other W_44 ⟨W_6.heap.size, 0, none⟩ (w.heap.size) (.slice aN qs.length cN) (by show w.heap.size ≠ W_6.heap.size; omega)).trans A_47
    have QA_57 := hD.set (p := W_6.heap.size) (o := 0) (v := .slice aN qs.length cN) (by omega)
    have hz_58 : W_44.heap.size ≤ (W_44.setCell ⟨W_6.heap.size, 0, none⟩ (.slice aN qs.length cN)).heap.size := setcell_size _ _ _
    go_simp
    generalize (W_44.setCell ⟨W_6.heap.size, 0, none⟩ (.slice aN qs.length cN)) = W_54 at *
    clear z_50 f_51 K_46 A_47 T_48 hD hB_45
    simp only [List.setIfInBounds_toArray, List.set_cons_zero] at s_52
    refine hK _ _ (fun _ => ⟨K_55, A_56⟩) ?_
    clear hK K
    try simp only [Act.put, uA, uB, uC, uD, uE, uF]
    refine wpAnyE.one (i := 17) (by kernel_rfl) rfl (fun K hK => ?_)
    go_simp
    refine hK _ _ (fun _ => ⟨K_55, A_56⟩) ?_
    clear hK K
    try simp only [Act.put, uA, uB, uC, uD, uE, uF]
    refine wpAnyE.one (i := 18) (by kernel_rfl) rfl (fun K hK => ?_)
    go_simp
    refine hK _ _ (fun _ => ⟨K_55, A_56⟩) ?_
    clear hK K
    try simp only [Act.put, uA, uB, uC, uD, uE, uF]
    refine wpAnyE.done (by kernel_rfl) ?_
    have f_59 := f_of (o := 0) K_55
    have Kc0 := c1_of K_55
    have Tc0 := c1_of s_52
    have h_60 := c1_set (u := .slice aN qs.length cN) K_55
    have hb_61 : Below w0.heap.size w0 (W_54.setCell ⟨L, 0, none⟩ (.slice aN qs.length cN)) := (hb0.trans (hB_53.mono hb0.size)).setCell hLz _
    have hd_62 := ((QA_57.set (p := L) (o := 0) (v := .slice aN qs.length cN) (.inl (by omega))).wide (y' := (W_54.setCell ⟨L, 0, none⟩ (.slice aN qs.length cN)).heap.size) (by rw [World.size_setCell]; omega) (Nat.le_refl _)).widen (z' := w.heap.size) (by omega)
    have HF : Hid (PO (.returned (.tuple #[.bool dN, .int .i64 (pE (l.map Rq.r) x.m x.us x.f x.up x.la)])) (W_54.setCell ⟨L, 0, none⟩ (.slice aN qs.length cN))) := (HPO.out _ _).2 ⟨aN, cN, dN, qs, rfl, hb_61, h_60, by rw [World.size_setCell]; exact hB_53.size, hd_62, HX, HY⟩
    clear hb_61 h_60 hd_62 QA_57 HX HY
    go_wp2
    exact HF.out
end

section
open Go.RowKit
set_option maxRecDepth 100000

abbrev rq3 (Q : Nat → Rq) : List Rp := [(Q 0).r, (Q 1).r, (Q 2).r]
theorem rOf_rq3 (Q : Nat → Rq) {i : Nat} (hi : i < 3) : rOf (rq3 Q) i = (Q i).r := by
  have : i = 0 ∨ i = 1 ∨ i = 2 := by omega
  rcases this with rfl | rfl | rfl <;> rfl

set_option maxHeartbeats 8000000 in
theorem clerkRepair_any (w0 : World) (L B cap : Nat) (Q : Nat → Rq) (i : Nat) (hi : i < 3) (w : World) (hg : Glob w) (hb0 : Below w0.heap.size w0 w) (hLz : w0.heap.size ≤ L) (hL : w.heap[L]? = some (boxK B 0 cap)) (hd : Rw w w0.heap.size L B 0 Q) (hcap : 3 ≤ cap ∧ cap ≤ 9223372036854775807) (hck : checkC (rq3 Q) = 0) :
    Calls Tryz.prog 154 #[.pointer (some ⟨L, 0, none⟩), .int .i64 (i : Int)] w (ChPost w0 L B 0 cap Q i (fromE (top (rq3 Q)) (Q i).r) (fromR (top (rq3 Q)) (Q i).r)) := by
  have hmf : ∀ (fn : Fn) (first cap : Array Value) (w : World), (Instr.makeFunc fn first cap).run Tryz.prog w = .ok (.func fn first cap) w := fun _ _ _ _ => rfl
  obtain ⟨PO, HPO⟩ : ∃ P : Ending → World → Prop, Hid (P = ChPost w0 L B 0 cap Q i (fromE (top (rq3 Q)) (Q i).r) (fromR (top (rq3 Q)) (Q i).r)) := ⟨_, rfl⟩
  rw [← HPO.out]
  have y0 : w.cell? ⟨L, 0, none⟩ = some (.slice (some ⟨B, 0, none⟩) 3 cap) := by rw [cell_of_row _ _ _ _ _ _ hL]; rfl
  have hn : Calls Tryz.prog 16 #[.agg #[.slice (some ⟨B, 0, none⟩) 3 cap]] w fun e w' => ∃ n : Nat, e = .returned (.tuple #[.int .i64 n, .int .i64 (checkC (rq3 Q))]) ∧ Hid (checkC (rq3 Q) = 0 → n = bestTo (gsOf [Q 0, Q 1, Q 2]) 3) ∧ Below w.heap.size w w' :=
    newestC_any (some ⟨B, 0, none⟩) cap [Q 0, Q 1, Q 2] w hg hd.holds hcap.1 hcap.2
  go_enter Tryz.func154, Tryz.ntmps154
  go_wp2_with fail
  refine hn.mono ?_
  clear hn y0
  rintro e w1 ⟨n, rfl, Hn, hb1⟩
  have HAT : Hid (n = bestI (rq3 Q)) := (Hn.out hck).trans (best_map [Q 0, Q 1, Q 2])
  have hn3 : n < 3 := by rw [HAT.out]; exact bestI_lt rfl
  have HTOP : Hid (top (rq3 Q) = (Q n).r) := by
    unfold Hid
    show rOf (rq3 Q) (bestI (rq3 Q)) = _
    rw [← HAT.out, rOf_rq3 Q hn3]
  rw [hck]
  rw [HTOP.out] at HPO
  have hn3' : (n : Int) < 3 := by omega
  have hB1 := hb0.trans (hb1.mono hb0.size)
  have hg1 := hg.below hb1
  have R1 := hd.below hb1
  have kL1 := (hb1.block _ (heap_lt hL)).trans hL
  have hLw := heap_lt hL
  have hs1 := hb1.size
  clear hck Hn hb1 hd hL hb0 HAT
  have y0 : w1.cell? ⟨L, 0, none⟩ = some (.slice (some ⟨B, 0, none⟩) 3 cap) := by rw [cell_of_row _ _ _ _ _ _ kL1]; rfl
  obtain ⟨x0, x1, x2, x3, x4, x5, x6⟩ := R1.row n hn3
  rw [Nat.zero_add] at x0 x1 x2 x3 x4 x5 x6
  have hA := below_alloc w1 (Q n).blk
  have kp := heap_alloc_new w1 (Q n).blk
  have R2 := R1.below hA
  have kL2 := (hA.block _ (heap_lt kL1)).trans kL1
  have hB2 := hB1.trans (hA.mono hB1.size)
  have hcall : Calls Tryz.prog 205 #[(Q i).val, .pointer (some ⟨w1.heap.size, 0, none⟩)] (w1.alloc (Q n).blk) (RepPost (fromE (Q n).r (Q i).r) (fromR (Q n).r (Q i).r).s (Q n).r.l (Q n).r.g 0 [] [] false (w1.alloc (Q n).blk)) :=
    repair1_any (Q n) (Q i) w1.heap.size _ (hg1.below hA) kp (R2.each n hn3).self (R2.each i hi).self
  have hch := changeR_any w0 L B 0 cap Q i hi w1.heap.size (fromE (Q n).r (Q i).r) (fromR (Q n).r (Q i).r).s (Q n).r.l (Q n).r.g _ hB2 hLz kL2 R2 hcall
  clear hcall R1 R2 kL1 kL2 kp hA hB1 hB2
  go_wp2_with fail
  refine hch.mono ?_
  clear hch x0 x1 x2 x3 x4 x5 x6 y0
  rintro e w2 ⟨hb, hpost⟩
  rcases hpost with ⟨hne, rfl⟩ | ⟨hz, rfl, q, hq, hL2, R2⟩
  · have HF : Hid (PO (.returned (.tuple #[.bool false, .int .i64 (fromE (Q n).r (Q i).r)])) w2) := by rw [HPO.out]; exact ⟨hb, .inl ⟨hne, rfl⟩⟩
    clear hne hb
    generalize fromE (Q n).r (Q i).r = E at *
    go_wp2
    exact HF.out
  · have HF : Hid (PO (.returned (.tuple #[.bool true, .int .i64 0])) w2) := by rw [HPO.out]; exact ⟨hb, .inr ⟨hz, rfl, q, hq, hL2, R2⟩⟩
    clear hz hb hq hL2 R2
    go_wp2
    exact HF.out
end

section
open Go.RowKit
set_option maxRecDepth 100000

def oN (x : Ac) : Nat := x.o.toNat
/-- what becomes of the replica that an act speaks of. -/
def becE (l : List Rp) (x : Ac) : Int := if x.k = 2 then fromE (top l) (rOf l (oN x)) else (rOf l (oN x)).err
def becR (l : List Rp) (x : Ac) : Rp := if x.k = 2 then fromR (top l) (rOf l (oN x)) else ⟨(rOf l (oN x)).s, (rOf l (oN x)).l, (rOf l (oN x)).g, 0, [], [], false⟩
def dE (l : List Rp) (x : Ac) : Int := if x.k = 1 then pE l x.m x.us x.f x.up x.la else becE l x
def dT (l : List Rp) (x : Ac) : Bool := if x.k = 1 then doI l x.m x.us x.f x.up x.la else true
def updR (R : Nat → Rp) (i : Nat) (r : Rp) : Nat → Rp := fun j => if j = i then r else R j
def dL (l : List Rp) (x : Ac) : List Rp := if x.k = 1 then eL l x.m x.us x.f x.up x.la else l3 (updR (rOf l) (oN x) (becR l x))
/-- what Do answers: its error. -/
def doE (l : List Rp) (x : Ac) : Int := if checkC l ≠ 0 then checkC l else if actE x ≠ 0 then actE x else dE l x
theorem actE_zero {x : Ac} (h : actE x = 0) : (x.k = 1 ∧ x.o = 0) ∨ (x.k ≠ 1 ∧ (x.k = 2 ∨ x.k = 3) ∧ x.o = (oN x : Int) ∧ oN x < 3 ∧ pushesB x = false) := by
  unfold actE at h
  by_cases k1 : x.k = 1
  · rw [if_pos k1] at h
    by_cases ho : x.o = 0
    · exact .inl ⟨k1, ho⟩
    · rw [if_neg ho] at h; cases h
  · rw [if_neg k1] at h
    by_cases k2 : x.k = 2 ∨ x.k = 3
    · rw [if_pos k2] at h
      cases hp : pushesB x with
      | true => rw [if_pos hp] at h; cases h
      | false =>
        rw [if_neg (by rw [hp]; simp)] at h
        by_cases ho : x.o < 0 ∨ 3 ≤ x.o
        · rw [if_pos ho] at h; cases h
        · exact .inr ⟨k1, k2, by unfold oN; omega, by unfold oN; omega, rfl⟩
    · rw [if_neg k2] at h; cases h
def ClkPost (w0 : World) (L : Nat) (l : List Rp) (x : Ac) (e : Ending) (w' : World) : Prop :=
  ∃ dN : Bool, e = .returned (.tuple #[.bool dN, .int .i64 (dE l x)]) ∧ Below w0.heap.size w0 w' ∧
    (dE l x = 0 → dN = dT l x ∧ ∃ (B cap : Nat) (qs : List Rq), w'.heap[L]? = some (.cells #[.slice (some ⟨B, 0, none⟩) 3 cap] 138) ∧ Dep w' w0.heap.size w'.heap.size (fun W => HoldsQ W (some ⟨B, 0, none⟩) qs) ∧ qs.map Rq.r = dL l x ∧ 3 ≤ cap ∧ cap ≤ 9223372036854775807)
theorem upd_rq3 (Q : Nat → Rq) (i : Nat) (q : Rq) : [upd Q i q 0, upd Q i q 1, upd Q i q 2].map Rq.r = l3 (updR (rOf (rq3 Q)) i q.r) := by
  have h : ∀ j, j < 3 → (upd Q i q j).r = updR (rOf (rq3 Q)) i q.r j := fun j hj => by
    unfold updR
    by_cases e : j = i
    · subst e; rw [upd_same, if_pos rfl]
    · rw [upd_other _ _ e, if_neg e, rOf_rq3 Q hj]
  simp only [List.map_cons, List.map_nil, l3]
  rw [h 0 (by omega), h 1 (by omega), h 2 (by omega)]
theorem ClkPost.of_change {w0 w' : World} {L B cap i : Nat} {Q : Nat → Rq} {x : Ac} {e : Ending} (hcap : 3 ≤ cap ∧ cap ≤ 9223372036854775807) (hk : x.k ≠ 1) (hi : i = oN x) (h : ChPost w0 L B 0 cap Q i (becE (rq3 Q) x) (becR (rq3 Q) x) e w') : ClkPost w0 L (rq3 Q) x e w' := by
  obtain ⟨hb, ⟨hne, rfl⟩ | ⟨hz, rfl, q, hq, hL, R⟩⟩ := h
  · refine ⟨false, ?_, hb, fun e => ?_⟩
    · unfold dE; rw [if_neg hk]
    · unfold dE at e; rw [if_neg hk] at e; exact absurd e hne
  · refine ⟨true, ?_, hb, fun _ => ⟨?_, B, cap, [upd Q i q 0, upd Q i q 1, upd Q i q 2], hL, R.dep, ?_, hcap.1, hcap.2⟩⟩
    · unfold dE; rw [if_neg hk, hz]
    · unfold dT; rw [if_neg hk]
    · unfold dL; rw [if_neg hk, upd_rq3, hq, hi]

set_option maxHeartbeats 8000000 in
theorem clerkDo_any (w0 : World) (L B cap : Nat) (Q : Nat → Rq) (x : Ac) (am : Option Addr) (cm : Nat) (au : Option Addr) (cu : Nat) (w : World) (hg : Glob w) (ht : Tab w) (hb0 : Below w0.heap.size w0 w) (hLz : w0.heap.size ≤ L) (hL : w.heap[L]? = some (boxK B 0 cap)) (hd : Rw w w0.heap.size L B 0 Q) (hcap : 3 ≤ cap ∧ cap ≤ 9223372036854775807) (hck : checkC (rq3 Q) = 0) (hact : actE x = 0)
    (hm : HoldsS w am x.m) (hml : x.m.length ≤ 9223372036854775807) (hu : HoldsU w au x.us) (hul : x.us.length ≤ 9223372036854775807) :
    Calls Tryz.prog 93 #[.pointer (some ⟨L, 0, none⟩), x.val am cm au cu] w (ClkPost w0 L (rq3 Q) x) := by
  have hmf : ∀ (fn : Fn) (first cap : Array Value) (w : World), (Instr.makeFunc fn first cap).run Tryz.prog w = .ok (.func fn first cap) w := fun _ _ _ _ => rfl
  obtain ⟨PO, HPO⟩ : ∃ P : Ending → World → Prop, Hid (P = ClkPost w0 L (rq3 Q) x) := ⟨_, rfl⟩
  rw [← HPO.out]
  have hA := below_alloc w (x.blk am cm au cu)
  have kA := heap_alloc_new w (x.blk am cm au cu)
  have kL1 := (hA.block _ (heap_lt hL)).trans hL
  have R1 := hd.below hA
  have hB1 := hb0.trans (hA.mono hb0.size)
  have hg1 := hg.below hA
  have ht1 := ht.below hA
  have hm1 := hm.below hA
  have hu1 := hu.below hA
  have hws : Hid (w0.heap.size ≤ (w.alloc (x.blk am cm au cu)).heap.size) := hB1.size
  go_enter Tryz.func93, Tryz.ntmps93
  rcases actE_zero hact with ⟨k1, ho⟩ | ⟨k1, k23, ho, ho3, -⟩
  · have z1 : (x.k == 1) = true := by simpa using k1
    have HE : Hid (dE (rq3 Q) x = pE (rq3 Q) x.m x.us x.f x.up x.la ∧ dT (rq3 Q) x = doI (rq3 Q) x.m x.us x.f x.up x.la ∧ dL (rq3 Q) x = eL (rq3 Q) x.m x.us x.f x.up x.la) := ⟨by unfold dE; rw [if_pos k1], by unfold dT; rw [if_pos k1], by unfold dL; rw [if_pos k1]⟩
    have hc := clerkPush_any w0 L x (some ⟨B, 0, none⟩) cap [Q 0, Q 1, Q 2] am cm au cu _ hB1 hLz kL1 hg1 ht1 R1.holds hcap.1 hcap.2 hm1 hml hu1 hul
    clear k1 ho hact
    go_wp2_with fail
    generalize w.alloc (x.blk am cm au cu) = W1 at *
    refine hc.mono ?_
    clear hc kA kL1 R1 hA hB1 hg1 ht1 hm1 hu1 hL hd hb0
    rintro e W2 ⟨aN, cN, dN, qs, rfl, hb, h2, hs, hD, HX, HY⟩
    obtain ⟨E, hE⟩ : ∃ E, E = pE (List.map Rq.r [Q 0, Q 1, Q 2]) x.m x.us x.f x.up x.la := ⟨_, rfl⟩
    rw [← hE] at HX HY ⊢
    have hE' : dE (rq3 Q) x = E := HE.out.1.trans hE.symm
    have HF : Hid (PO (.returned (.tuple #[.bool dN, .int .i64 E])) W2) := by
      unfold Hid
      rw [HPO.out]
      refine ⟨dN, by rw [hE'], hb, fun e => ?_⟩
      rw [hE'] at e
      obtain ⟨q1, q2, ⟨B', rfl⟩, q4, q5, q6⟩ := HX.out e
      rw [q6] at h2 q4
      exact ⟨by rw [HE.out.2.1]; exact q2, B', cN, qs, h2, hD.widen hws.out, by rw [HE.out.2.2]; exact q1, q4, q5⟩
    clear HX HY hD h2 hb HE hE hE'
    go_wp2
    exact HF.out
  have z1 : (x.k == 1) = false := by simpa using k1
  have HK1 : Hid (x.k ≠ 1) := k1
  by_cases k2 : x.k = 2
  · have z2 : (x.k == 2) = true := by simpa using k2
    have HC : Hid (∀ e w', ChPost w0 L B 0 cap Q (oN x) (fromE (top (rq3 Q)) (Q (oN x)).r) (fromR (top (rq3 Q)) (Q (oN x)).r) e w' → PO e w') := fun e w' h => by
      rw [HPO.out]
      refine ClkPost.of_change (B := B) (i := oN x) hcap HK1.out rfl ?_
      unfold becE becR
      rw [if_pos k2, if_pos k2, rOf_rq3 Q ho3]
      exact h
    have hc := clerkRepair_any w0 L B cap Q (oN x) ho3 _ hg1 hB1 hLz kL1 R1 hcap hck
    rw [← ho] at hc
    clear k1 k2 k23 ho hact
    go_wp2_with fail
    generalize w.alloc (x.blk am cm au cu) = W1 at *
    refine hc.mono ?_
    clear hc kA kL1 R1 hA hB1 hg1 ht1 hm1 hu1 hL hd hb0
    rintro e W2 h
    have hF := HC.out e W2 h
    obtain ⟨b, E, rfl⟩ : ∃ b E, e = .returned (.tuple #[.bool b, .int .i64 E]) := by
      obtain ⟨_, ⟨_, q⟩ | ⟨_, q, _⟩⟩ := h
      · exact ⟨_, _, q⟩
      · exact ⟨_, _, q⟩
    have HF : Hid (PO (.returned (.tuple #[.bool b, .int .i64 E])) W2) := hF
    clear h hF
    go_wp2
    exact HF.out
  · have z2 : (x.k == 2) = false := by simpa using k2
    have HC : Hid (∀ e w', ChPost w0 L B 0 cap Q (oN x) (Q (oN x)).r.err ⟨(Q (oN x)).r.s, (Q (oN x)).r.l, (Q (oN x)).r.g, 0, [], [], false⟩ e w' → PO e w') := fun e w' h => by
      rw [HPO.out]
      refine ClkPost.of_change (B := B) (i := oN x) hcap HK1.out rfl ?_
      unfold becE becR
      rw [if_neg k2, if_neg k2, rOf_rq3 Q ho3]
      exact h
    have hcall := crashL_any (Q (oN x)) _ hg1 (R1.each (oN x) ho3).self
    have hc := changeC_any w0 L B 0 cap Q (oN x) ho3 (Q (oN x)).r.err (Q (oN x)).r.s (Q (oN x)).r.l (Q (oN x)).r.g _ hB1 hLz kL1 R1 hcall
    rw [← ho] at hc
    clear k1 k2 k23 ho hact hcall
    go_wp2_with fail
    generalize w.alloc (x.blk am cm au cu) = W1 at *
    refine hc.mono ?_
    clear hc kA kL1 R1 hA hB1 hg1 ht1 hm1 hu1 hL hd hb0
    rintro e W2 h
    have hF := HC.out e W2 h
    obtain ⟨b, E, rfl⟩ : ∃ b E, e = .returned (.tuple #[.bool b, .int .i64 E]) := by
      obtain ⟨_, ⟨_, q⟩ | ⟨_, q, _⟩⟩ := h
      · exact ⟨_, _, q⟩
      · exact ⟨_, _, q⟩
    have HF : Hid (PO (.returned (.tuple #[.bool b, .int .i64 E])) W2) := hF
    clear h hF
    go_wp2
    exact HF.out
end

section
open Go.RowKit
set_option maxRecDepth 100000

/-- what Do hands back. -/
def DoPost (l : List Rp) (x : Ac) (w : World) (e : Ending) (w' : World) : Prop :=
  Below w.heap.size w w' ∧ ((doE l x ≠ 0 ∧ e = .returned (.tuple #[.agg #[.slice none 0 0], .bool false, .int .i64 (doE l x)])) ∨
    (doE l x = 0 ∧ ∃ B cap qs, e = .returned (.tuple #[.agg #[.slice (some ⟨B, 0, none⟩) 3 cap], .bool (dT l x), .int .i64 0]) ∧ qs.map Rq.r = dL l x ∧ Dep w' w.heap.size w'.heap.size (fun W => HoldsQ W (some ⟨B, 0, none⟩) qs) ∧ 3 ≤ cap ∧ cap ≤ 9223372036854775807))
theorem DoPost.bad {l : List Rp} {x : Ac} {w w' : World} {r : Int} (h : doE l x = r) (h0 : r ≠ 0) (hb : Below w.heap.size w w') : DoPost l x w (.returned (.tuple #[.agg #[.slice none 0 0], .bool false, .int .i64 r])) w' :=
  ⟨hb, .inl ⟨by rw [h]; exact h0, by rw [h]⟩⟩
def q0d : Rq := ⟨⟨[], [], 0, 0, [], [], false⟩, none, 0, none, 0, none, 0, none, 0⟩
theorem rq3_map {l : List Rp} {qs : List Rq} (h : qs.map Rq.r = l) (hl : qs.length = 3) : rq3 (fun i => qs.getD i q0d) = l := by
  match qs, hl with
  | [a, b, c], _ => rw [← h]; rfl

set_option maxHeartbeats 8000000 in
theorem do_any (x : Ac) (a : Option Addr) (c : Nat) (l : List Rq) (am : Option Addr) (cm : Nat) (au : Option Addr) (cu : Nat) (w : World) (hg : Glob w) (ht : Tab w) (h : HoldsQ w a l) (hlc : l.length ≤ c) (hcm : c ≤ 9223372036854775807)
    (hm : HoldsS w am x.m) (hml : x.m.length ≤ 9223372036854775807) (hu : HoldsU w au x.us) (hul : x.us.length ≤ 9223372036854775807) :
    Calls Tryz.prog 41 #[.agg #[.slice a l.length c], x.val am cm au cu] w (DoPost (l.map Rq.r) x w) := by
  obtain ⟨PO, HPO⟩ : ∃ P : Ending → World → Prop, Hid (P = DoPost (l.map Rq.r) x w) := ⟨_, rfl⟩
  rw [← HPO.out]
  obtain ⟨hk1, hk2, hk3, hB⟩ := three_blocks w (.cells #[.slice a l.length c] 24) (x.blk am cm au cu) (.cells #[.slice none 0 0] 24)
  have HZ0 : Hid (((((w.alloc (.cells #[.slice a l.length c] 24)).alloc (x.blk am cm au cu)).alloc (.cells #[.slice none 0 0] 24))).heap.size = w.heap.size + 3) := by unfold Hid; simp
  have y1 := c1_of hk1
  have hc := checkC_any a c l _ (hg.below hB) (h.below hB) hlc hcm
  go_enter Tryz.func41, Tryz.ntmps41
  go_wp2_with fail
  generalize (((w.alloc (.cells #[.slice a l.length c] 24)).alloc (x.blk am cm au cu)).alloc (.cells #[.slice none 0 0] 24)) = W0 at *
  refine hc.mono ?_
  clear hc y1
  rintro e W1 ⟨rfl, hb1⟩
  have hB1 := hB.trans (hb1.mono hB.size)
  have j1 := (hb1.block _ (heap_lt hk1)).trans hk1
  have j2 := (hb1.block _ (heap_lt hk2)).trans hk2
  have j3 := (hb1.block _ (heap_lt hk3)).trans hk3
  have HB01 : Hid (Below W0.heap.size W0 W1) := hb1
  by_cases e1 : checkC (l.map Rq.r) = 0
  case neg =>
    have HF : Hid (∀ w', Below w.heap.size w w' → PO (.returned (.tuple #[.agg #[.slice none 0 0], .bool false, .int .i64 (checkC (l.map Rq.r))])) w') := fun w' hb => by
      rw [HPO.out]; exact DoPost.bad (by unfold doE; rw [if_pos e1]) e1 hb
    have q1 : (checkC (l.map Rq.r) != 0) = true := by simpa using e1
    clear e1 hb1 hk1 hk2 hk3 j1 j2 HB01
    generalize checkC (l.map Rq.r) = E at *
    have f2 := f_of (o := 0) j3
    have o2 := c1_of j3
    have i0 := c1_of (c1_set (u := .slice none 0 0) j3)
    have HB : Hid (Below w.heap.size w (W1.setCell ⟨w.heap.size + 2, 0, none⟩ (.slice none 0 0))) := hB1.setCell (by show w.heap.size ≤ w.heap.size + 2; omega) _
    clear j3 hB1 hB
    go_wp2
    refine bodyPost_ret (v := .tuple #[.agg #[.slice none 0 0], .bool false, .int .i64 E]) (by simp [results, Tryz.results41, go_sem, i0]) rfl ?_
    exact HF.out _ HB.out
  have HC : Hid (checkC (l.map Rq.r) = 0) := e1
  rw [e1]
  clear e1 hk1 hk2 hk3
  obtain ⟨y0, y1, y2, y3, y4, y5, y6⟩ := c7_of j2
  have hca := checkAct_any x am cm au cu W1
  go_wp2_with fail
  refine hca.mono ?_
  clear hca y0 y1 y2 y3 y4 y5 y6
  rintro e W2 ⟨rfl, hb2⟩
  have hB2 := hB1.trans (hb2.mono hB1.size)
  have HB02 : Hid (Below W0.heap.size W0 W2) := HB01.out.trans (hb2.mono HB01.out.size)
  have k1 := (hb2.block _ (heap_lt j1)).trans j1
  have k2 := (hb2.block _ (heap_lt j2)).trans j2
  have k3 := (hb2.block _ (heap_lt j3)).trans j3
  clear hb1 hb2 j1 j2 j3 hB1 HB01
  by_cases e2 : actE x = 0
  case neg =>
    have HF : Hid (∀ w', Below w.heap.size w w' → PO (.returned (.tuple #[.agg #[.slice none 0 0], .bool false, .int .i64 (actE x)])) w') := fun w' hb => by
      rw [HPO.out]; exact DoPost.bad (by unfold doE; rw [if_neg (fun e => e HC.out), if_pos e2]) e2 hb
    have q1 : (actE x != 0) = true := by simpa using e2
    clear e2 k1 k2 HB02
    generalize actE x = E at *
    have f2 := f_of (o := 0) k3
    have o2 := c1_of k3
    have i0 := c1_of (c1_set (u := .slice none 0 0) k3)
    have HB : Hid (Below w.heap.size w (W2.setCell ⟨w.heap.size + 2, 0, none⟩ (.slice none 0 0))) := hB2.setCell (by show w.heap.size ≤ w.heap.size + 2; omega) _
    clear k3 hB2 hB
    go_wp2
    refine bodyPost_ret (v := .tuple #[.agg #[.slice none 0 0], .bool false, .int .i64 E]) (by simp [results, Tryz.results41, go_sem, i0]) rfl ?_
    exact HF.out _ HB.out
  have HA : Hid (actE x = 0) := e2
  rw [e2]
  have HDO : Hid (doE (l.map Rq.r) x = dE (l.map Rq.r) x) := by unfold Hid doE; rw [if_neg (fun e => e HC.out), if_neg (fun e => e e2)]
  obtain ⟨c1, c2, _⟩ := checkC_iff.1 HC.out
  have hl3 : l.length = 3 := by rw [List.length_map] at c1; exact c1
  have HER : Hid (∀ q ∈ l, q.r.err = 0) := fun q hq => by
    obtain ⟨i, hi, rfl⟩ := List.mem_iff_getElem.1 hq
    have := c2 i (by omega)
    rwa [show rOf (l.map Rq.r) i = l[i].r by simp [rOf, hi]] at this
  have hc := copyC_any a c l W2 (h.below hB2) (by omega) HER.out
  have y1 := c1_of k1
  have HL3 : Hid (l.length = 3) := hl3
  clear e2 c1 c2 HER hl3
  go_wp2_with fail
  refine hc.mono ?_
  clear hc y1
  rintro e W3 ⟨v, qs, rfl, hqs, QS, hb3⟩
  have hql : qs.length = 3 := by
    have := congrArg List.length hqs
    rw [List.length_map, List.length_map, HL3.out] at this; exact this
  obtain ⟨B, cap, rfl, hcap⟩ := qs_slice QS hql
  have hB3 := hB2.trans (hb3.mono hB2.size)
  have hs2 := HB02.out.size
  have HB03 : Hid (Below W0.heap.size W0 W3) := HB02.out.trans (hb3.mono HB02.out.size)
  have m2 := (hb3.block _ (heap_lt k2)).trans k2
  have m3 := (hb3.block _ (heap_lt k3)).trans k3
  have QS' := QS.from (z' := W0.heap.size) hs2
  have R0 := Rw.of_copy QS' hql q0d (.cells #[.slice (some ⟨B, 0, none⟩) 3 cap] 138)
  have hA := below_alloc W3 (.cells #[.slice (some ⟨B, 0, none⟩) 3 cap] 138)
  have kL := heap_alloc_new W3 (.cells #[.slice (some ⟨B, 0, none⟩) 3 cap] 138)
  have n2 := (hA.block _ (heap_lt m2)).trans m2
  have n3 := (hA.block _ (heap_lt m3)).trans m3
  have hB4 := hB3.trans (hA.mono hB3.size)
  have HB04 : Hid (Below W0.heap.size W0 (W3.alloc (.cells #[.slice (some ⟨B, 0, none⟩) 3 cap] 138))) := HB03.out.trans (hA.mono HB03.out.size)
  have hLz : W0.heap.size ≤ W3.heap.size := HB03.out.size
  have hmap : rq3 (fun i => qs.getD i q0d) = l.map Rq.r := rq3_map hqs hql
  have hdo := clerkDo_any W0 W3.heap.size B cap (fun i => qs.getD i q0d) x am cm au cu _ (hg.below hB4) (ht.below hB4) HB04.out hLz kL R0 hcap (by rw [hmap]; exact HC.out) HA.out (hm.below hB4) hml (hu.below hB4) hul
  rw [hmap] at hdo
  obtain ⟨y0, y1, y2, y3, y4, y5, y6⟩ := c7_of n2
  clear hmap R0 QS QS' kL m2 m3 k1 k2 k3 hb3 hB3 hB2 HB02 hqs hql hA
  go_wp2_with fail
  generalize W3.alloc (.cells #[.slice (some ⟨B, 0, none⟩) 3 cap] 138) = W4 at *
  refine hdo.mono ?_
  clear hdo y0 y1 y2 y3 y4 y5 y6 n2
  rintro e W5 ⟨dN, rfl, hb5, hok⟩
  have hW0 := HZ0.out
  have n5 : W5.heap[w.heap.size + 2]? = some (.cells #[.slice none 0 0] 24) := (hb5.block _ (by omega)).trans ((HB04.out.block _ (by omega)).symm.trans n3)
  have hB5 := hB.trans (hb5.mono hB.size)
  have f2 := f_of (o := 0) n5
  have o2 := c1_of n5
  clear hb5 n3 hB4
  by_cases e3 : dE (l.map Rq.r) x = 0
  case neg =>
    have HF : Hid (∀ w', Below w.heap.size w w' → PO (.returned (.tuple #[.agg #[.slice none 0 0], .bool false, .int .i64 (dE (l.map Rq.r) x)])) w') := fun w' hb => by
      rw [HPO.out]; exact DoPost.bad HDO.out e3 hb
    have q1 : (dE (l.map Rq.r) x != 0) = true := by simpa using e3
    clear e3 hok HDO
    generalize dE (l.map Rq.r) x = E at *
    have i0 := c1_of (c1_set (u := .slice none 0 0) n5)
    have HB : Hid (Below w.heap.size w (W5.setCell ⟨w.heap.size + 2, 0, none⟩ (.slice none 0 0))) := hB5.setCell (by show w.heap.size ≤ w.heap.size + 2; omega) _
    clear n5 hB5 hB
    go_wp2
    refine bodyPost_ret (v := .tuple #[.agg #[.slice none 0 0], .bool false, .int .i64 E]) (by simp [results, Tryz.results41, go_sem, i0]) rfl ?_
    exact HF.out _ HB.out
  obtain ⟨hdt, B', cap', qs', hL5, hD, hq', h3', hmx⟩ := hok e3
  have HF : Hid (PO (.returned (.tuple #[.agg #[.slice (some ⟨B', 0, none⟩) 3 cap'], .bool dN, .int .i64 0])) (W5.setCell ⟨w.heap.size + 2, 0, none⟩ (.slice (some ⟨B', 0, none⟩) 3 cap'))) := by
    unfold Hid
    rw [HPO.out]
    refine ⟨hB5.setCell (by show w.heap.size ≤ w.heap.size + 2; omega) _, .inr ⟨HDO.out.trans e3, B', cap', qs', by rw [hdt], hq', ?_, h3', hmx⟩⟩
    refine Dep.widen (z := W0.heap.size) ?_ (by omega)
    exact (hD.set (p := w.heap.size + 2) (o := 0) (v := .slice (some ⟨B', 0, none⟩) 3 cap') (.inl (by omega))).wide (by rw [World.size_setCell]; exact Nat.le_refl _) (Nat.le_refl _)
  have y0 := c1_of hL5
  have i0 := c1_of (c1_set (u := .slice (some ⟨B', 0, none⟩) 3 cap') n5)
  rw [e3]
  clear hok hD hq' hL5 n5 hB5 hB hdt e3 HDO
  go_wp2
  refine bodyPost_ret (v := .tuple #[.agg #[.slice (some ⟨B', 0, none⟩) 3 cap'], .bool dN, .int .i64 0]) (by simp [results, Tryz.results41, go_sem, i0]) rfl ?_
  exact HF.out
end
end Go.Proofs.YtehmlpkapjdhkaaGreatDoor
