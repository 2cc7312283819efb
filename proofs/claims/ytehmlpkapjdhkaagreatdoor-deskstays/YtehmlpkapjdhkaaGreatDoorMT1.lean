import Derived.Test.YtehmlpkapjdhkaaGreatDoorMX9
import Derived.Test.YtehmlpkapjdhkaaGreatDoorML4
import Derived.Test.YtehmlpkapjdhkaaGreatDoorMX8
import Derived.Test.YtehmlpkapjdhkaaGreatDoorMK2
import Derived.Test.YtehmlpkapjdhkaaGreatDoorML5
namespace Go.Proofs.YtehmlpkapjdhkaaGreatDoor
section
open Go.RowKit
set_option maxRecDepth 100000

theorem isC_le {o : List Ob} (h : checkS o = 0) {i : Int} (hi : IsC o i) : 1 ≤ i ∧ i ≤ 99 := by
  obtain ⟨⟨x, hx, rfl⟩, _⟩ := hi
  exact right_id h x hx
theorem Rw.holds {w : World} {z L B : Nat} {Q : Nat → Rq} (h : Rw w z L B 0 Q) : HoldsQ w (some ⟨B, 0, none⟩) [Q 0, Q 1, Q 2] := by
  intro i hi
  refine ⟨B, 0, rfl, h.ltB, fun j hj => ?_⟩
  have hj' : j = 0 ∨ j = 1 ∨ j = 2 := by simp at hj; omega
  rcases hj' with rfl | rfl | rfl
  · exact ⟨h.row 0 (by omega), (h.each 0 (by omega)).self⟩
  · exact ⟨h.row 1 (by omega), (h.each 1 (by omega)).self⟩
  · exact ⟨h.row 2 (by omega), (h.each 2 (by omega)).self⟩
theorem own_grown {w w' : World} {z : Nat} {e : TypeId} {size : Nat} {v : Value} {n : Nat} {xs : List Value} (ho : w.ownsRow z e size v n xs) (hg : w.grownBy w' v.ownBlock) (hz : z ≤ w.heap.size) : Below z w w' :=
  ⟨hg.os, hg.tape, hg.output, hg.size, fun k hk => hg.block k (by omega) (fun e => by have := (ho.lt k e.symm).1; omega)⟩
theorem own_any_slice {w : World} {z : Nat} {e : TypeId} {size : Nat} {v : Value} {n : Nat} {xs : List Value} (h : w.ownsRow z e size v n xs) : ∃ a c, v = .slice a n c := by
  rcases h.2 with ⟨rfl, e⟩ | ⟨g, cap, _, e, _⟩
  · exact ⟨_, _, by rw [e]⟩
  · exact ⟨_, _, e⟩
theorem Pushed.grown {l : List Rp} {m : List Ob} {us : List Up} {f : Bool} {up late : Int} (h : Pushed l m us f up late) : (rOf (eL l m us f up late) (bestI (eL l m us f up late))).g = (rOf l (bestI l)).g + if doI l m us f up late = true then 1 else 0 := by
  cases hd : doI l m us f up late with
  | false => rw [h.same hd]; simp
  | true =>
    have hbl := bestI_lt (l := eL l m us f up late) rfl
    rw [rOf_eL hbl, (h.yes _ hbl (h.best hd)).1, if_pos rfl]
    show (rOf l _).g + 1 = _
    rw [h.top _ hbl (h.best hd)]
end

section
open Go.RowKit
set_option maxRecDepth 100000

theorem freshP_nil {w : World} {z : Nat} : FreshP w z [] [] none 0 none 0 := ⟨⟨[], rfl, ⟨World.ownsRow_nil _ _ _ _, fun r hr => by cases hr⟩⟩, World.ownsRow_nil _ _ _ _⟩
set_option maxHeartbeats 1000000 in
theorem crash1_any (p : Nat) (aS : Option Addr) (ns cs : Nat) (al : Option Addr) (nl cl : Nat) (g ph : Int) (a1 : Option Addr) (n1 c1 : Nat) (a2 : Option Addr) (n2 c2 : Nat) (f : Bool) (w : World) (hk : w.heap[p]? = some (repB aS ns cs al nl cl g ph a1 n1 c1 a2 n2 c2 f 200)) :
    Calls Tryz.prog 206 #[.pointer (some ⟨p, 0, none⟩)] w fun e w' => e = .returned (.int .i64 0) ∧ w'.heap[p]? = some (repB aS ns cs al nl cl g 0 none 0 0 none 0 0 false 200) ∧ Below p w w' ∧ ∀ k, k ≠ p → w'.heap[k]? = w.heap[k]? := by
  go_enter Tryz.func206, Tryz.ntmps206
  go_wp2_with fail
  refine (rest_any p aS ns cs al nl cl g ph a1 n1 c1 a2 n2 c2 f w hk).mono ?_
  rintro e w1 ⟨rfl, h1, h2, h3⟩
  have HS : Hid (_ ∧ _ ∧ _) := ⟨h1, h2, h3⟩
  clear h1 h2 h3 hk
  go_wp2
  go_ret
  exact ⟨rfl, HS.out.1, HS.out.2.1, HS.out.2.2⟩

set_option maxHeartbeats 8000000 in
theorem during_crash (aS : Option Addr) (cs : Nat) (s : List Ob) (al : Option Addr) (cl : Nat) (l : List Rf) (g ph : Int) (a1 : Option Addr) (c1 : Nat) (m : List Ob) (a2 : Option Addr) (c2 : Nat) (us : List Up) (f : Bool) (w : World) (hg : Glob w) (H : RepH w aS s al l a1 m a2 us) :
    Calls Tryz.prog 159 #[RV aS cs s al cl l g ph a1 c1 m a2 c2 us f, .int .i64 ph, .func (.func 206) #[] #[]] w (RepPost (repE s l g ph m us f) s l g 0 [] [] false w) := by
  have hB := below_alloc2 w (RB aS cs s al cl l g ph a1 c1 m a2 c2 us f) zero28
  obtain ⟨hk1, hk2⟩ := two_blocks w (RB aS cs s al cl l g ph a1 c1 m a2 c2 us f) zero28
  obtain ⟨y0, y1, y2, y3, y4, y5, y6⟩ := c7_of hk1
  have hck := repCheck_any aS cs s al cl l g ph a1 c1 m a2 c2 us f _ (hg.below hB) (H.below hB)
  have Hz : Hid (w.heap.size + 2 ≤ ((w.alloc (RB aS cs s al cl l g ph a1 c1 m a2 c2 us f)).alloc zero28).heap.size) := by unfold Hid; simp
  have HE : Hid (∀ r, repE s l g ph m us f = r ↔ repE s l g ph m us f = r) := fun _ => Iff.rfl
  go_enter Tryz.func159, Tryz.ntmps159
  go_wp2_with fail
  generalize (w.alloc (RB aS cs s al cl l g ph a1 c1 m a2 c2 us f)).alloc zero28 = W0 at *
  refine hck.mono ?_
  clear hck
  rintro e W1 ⟨rfl, hb1⟩
  have hB1 := hB.trans (hb1.mono hB.size)
  have k1 := (hb1.block _ (heap_lt hk1)).trans hk1
  have kk1 := (hb1.block _ (heap_lt hk2)).trans hk2
  have Hz1 : Hid (w.heap.size + 2 ≤ W1.heap.size) := Nat.le_trans Hz.out hb1.size
  clear hb1 hB hk1 hk2 y0 y1 y2 y3 y4 y5 y6
  by_cases c1 : repE s l g ph m us f = 0
  case neg =>
    have hzs := set7_same W1 (w.heap.size + 1) 36 (.slice none 0 0) (.slice none 0 0) (.int .i64 0) (.int .i64 0) (.slice none 0 0) (.slice none 0 0) (.bool false) kk1
    obtain ⟨o0, o1, o2, o3, o4, o5, o6⟩ := c7_of kk1
    have fz0 := f_of (o := 0) kk1
    have fz1 := f_of (o := 1) kk1
    have fz2 := f_of (o := 2) kk1
    have fz3 := f_of (o := 3) kk1
    have fz4 := f_of (o := 4) kk1
    have fz5 := f_of (o := 5) kk1
    have fz6 := f_of (o := 6) kk1
    obtain ⟨i0, i1, i2, i3, i4, i5, i6⟩ := c7_of ((hzs.block _ (heap_lt kk1)).trans kk1)
    have HF : Hid (RepPost (repE s l g ph m us f) s l g 0 [] [] false w (.returned (.tuple #[zeroV, .int .i64 (repE s l g ph m us f)])) (((((((W1.setCell ⟨w.heap.size + 1, 0, none⟩ (.slice none 0 0)).setCell ⟨w.heap.size + 1, 1, none⟩ (.slice none 0 0)).setCell ⟨w.heap.size + 1, 2, none⟩ (.int .i64 0)).setCell ⟨w.heap.size + 1, 3, none⟩ (.int .i64 0)).setCell ⟨w.heap.size + 1, 4, none⟩ (.slice none 0 0)).setCell ⟨w.heap.size + 1, 5, none⟩ (.slice none 0 0)).setCell ⟨w.heap.size + 1, 6, none⟩ (.bool false))) := RepPost.bad (by exact rfl) c1 (hB1.trans (hzs.mono hB1.size))
    have z1 : (repE s l g ph m us f != 0) = true := by simpa using c1
    clear c1 k1 kk1 hB1 hzs
    go_wp2
    refine bodyPost_ret (v := .tuple #[zeroV, .int .i64 (repE s l g ph m us f)]) (by simp [results, Tryz.results159, go_sem, i0, i1, i2, i3, i4, i5, i6]) rfl ?_
    exact HF.out
  have HC : Hid (repE s l g ph m us f = 0) := c1
  rw [c1]
  clear c1
  obtain ⟨y0, y1, y2, y3, y4, y5, y6⟩ := c7_of k1
  have zp : (ph != ph) = false := by simp
  obtain ⟨n1, n2, n3, n4, n5, n6⟩ := rep_small HC.out
  have hcr := copyRep_any aS cs s al cl l g ph a1 c1 m a2 c2 us f W1 (H.hs.below hB1) (by omega) n2 (H.hl.below hB1) (by omega) (H.hm.below hB1) (by omega) n5 (H.hu.below hB1) (by omega)
  go_wp2_with fail
  refine hcr.mono ?_
  clear hcr
  rintro e W2 ⟨b0, d0, b1, d1, b2, d2, b3, d3, rfl, F2, hb2⟩
  have hB2 := hB1.trans (hb2.mono hB1.size)
  have kk2 := (hb2.block _ (heap_lt kk1)).trans kk1
  have hA3 := below_alloc W2 (repB b0 s.length d0 b1 l.length d1 g ph b2 m.length d2 b3 us.length d3 f 200)
  have k3 := heap_alloc_new W2 (repB b0 s.length d0 b1 l.length d1 g ph b2 m.length d2 b3 us.length d3 f 200)
  have hz12 := hb2.size
  have F3 := F2.below hA3
  have hB3 := hB2.trans (hA3.mono hB2.size)
  have kk3 := (hA3.block _ (heap_lt kk2)).trans kk2
  have h3 := F3.holds
  have R3 : RepH (W2.alloc (repB b0 s.length d0 b1 l.length d1 g ph b2 m.length d2 b3 us.length d3 f 200)) b0 s b1 l b2 m b3 us := ⟨h3.1, h3.2.1, h3.2.2.1, h3.2.2.2, H.ns, H.nl, H.nm, H.nu⟩
  have hs3 : (W2.alloc (repB b0 s.length d0 b1 l.length d1 g ph b2 m.length d2 b3 us.length d3 f 200)).heap.size = W2.heap.size + 1 := by simp
  clear F3 hb2 hB1 k1 kk1 kk2 h3 y0 y1 y2 y3 y4 y5 y6
  go_wp2_with fail
  generalize W2.alloc (repB b0 s.length d0 b1 l.length d1 g ph b2 m.length d2 b3 us.length d3 f 200) = W3 at *
  refine (crash1_any W2.heap.size b0 s.length d0 b1 l.length d1 g ph b2 m.length d2 b3 us.length d3 f W3 k3).mono ?_
  rintro e W4 ⟨rfl, k4, hb4, ho4⟩
  have kk4 := (ho4 (w.heap.size + 1) (by have := Hz1.out; omega)).trans kk3
  have hB4 := hB3.trans (hb4.mono hB2.size)
  have F4 := F2.kept (Nat.le_trans hA3.size hb4.size) (fun k h1 h2 => (ho4 k (by omega)).trans (hA3.block k h2))
  clear F2 hA3 k3 ho4 hb4 R3 kk3 hB3
  obtain ⟨x0, x1, x2, x3, x4, x5, x6⟩ := c7_of k4
  obtain ⟨o0, o1, o2, o3, o4, o5, o6⟩ := c7_of kk4
  have fz0 := f_of (o := 0) kk4
  have fz1 := f_of (o := 1) kk4
  have fz2 := f_of (o := 2) kk4
  have fz3 := f_of (o := 3) kk4
  have fz4 := f_of (o := 4) kk4
  have fz5 := f_of (o := 5) kk4
  have fz6 := f_of (o := 6) kk4
  obtain ⟨s1, s2, s3⟩ := set7_block W4 (w.heap.size + 1) 36 (.slice b0 s.length d0) (.slice b1 l.length d1) (.int .i64 g) (.int .i64 0) (.slice none 0 0) (.slice none 0 0) (.bool false) kk4
  obtain ⟨i0, i1, i2, i3, i4, i5, i6⟩ := c7_of s1
  have hst : ∀ k, W1.heap.size ≤ k → (((((((W4.setCell ⟨w.heap.size + 1, 0, none⟩ (.slice b0 s.length d0)).setCell ⟨w.heap.size + 1, 1, none⟩ (.slice b1 l.length d1)).setCell ⟨w.heap.size + 1, 2, none⟩ (.int .i64 g)).setCell ⟨w.heap.size + 1, 3, none⟩ (.int .i64 0)).setCell ⟨w.heap.size + 1, 4, none⟩ (.slice none 0 0)).setCell ⟨w.heap.size + 1, 5, none⟩ (.slice none 0 0)).setCell ⟨w.heap.size + 1, 6, none⟩ (.bool false)).heap[k]? = W4.heap[k]? := fun k hk => s3 k (by have := Hz1.out; omega)
  have F5 := F4.keep s2.size hst
  have h5 := F5.holds
  have HF : Hid (RepPost (repE s l g ph m us f) s l g 0 [] [] false w (.returned (.tuple #[RV b0 d0 s b1 d1 l g 0 none 0 [] none 0 [] false, .int .i64 0])) (((((((W4.setCell ⟨w.heap.size + 1, 0, none⟩ (.slice b0 s.length d0)).setCell ⟨w.heap.size + 1, 1, none⟩ (.slice b1 l.length d1)).setCell ⟨w.heap.size + 1, 2, none⟩ (.int .i64 g)).setCell ⟨w.heap.size + 1, 3, none⟩ (.int .i64 0)).setCell ⟨w.heap.size + 1, 4, none⟩ (.slice none 0 0)).setCell ⟨w.heap.size + 1, 5, none⟩ (.slice none 0 0)).setCell ⟨w.heap.size + 1, 6, none⟩ (.bool false))) :=
    ⟨hB4.trans (s2.mono (by omega)), .inr ⟨HC.out, b0, d0, b1, d1, none, 0, none, 0, rfl, ⟨h5.1, h5.2.1, fun i hi => by simp at hi, fun i hi => by simp at hi, H.ns, H.nl, by simp, by simp⟩, (FreshR.mk F5.objs F5.refs freshP_nil).from (by have := Hz1.out; omega)⟩⟩
  clear F5 h5 F4 hst s1 s2 s3 kk4 k4 hB4 H hs3 hz12
  go_wp2
  refine bodyPost_ret (v := .tuple #[replV b0 s.length d0 b1 l.length d1 g 0 none 0 0 none 0 0 false, .int .i64 0]) (by simp [results, Tryz.results159, go_sem, i0, i1, i2, i3, i4, i5, i6]) rfl ?_
  exact HF.out
set_option maxHeartbeats 4000000 in
theorem crash_any (aS : Option Addr) (cs : Nat) (s : List Ob) (al : Option Addr) (cl : Nat) (l : List Rf) (g ph : Int) (a1 : Option Addr) (c1 : Nat) (m : List Ob) (a2 : Option Addr) (c2 : Nat) (us : List Up) (f : Bool) (w : World) (hg : Glob w) (H : RepH w aS s al l a1 m a2 us) :
    Calls Tryz.prog 157 #[RV aS cs s al cl l g ph a1 c1 m a2 c2 us f] w (RepPost (repE s l g ph m us f) s l g 0 [] [] false w) := by
  obtain ⟨hk1, hk3⟩ := two_blocks w (RB aS cs s al cl l g ph a1 c1 m a2 c2 us f) zero28
  have hB := below_alloc2 w (RB aS cs s al cl l g ph a1 c1 m a2 c2 us f) zero28
  have hk2 : True := trivial
  have HZ0 : Hid (w.heap.size + 1 < ((w.alloc (RB aS cs s al cl l g ph a1 c1 m a2 c2 us f)).alloc zero28).heap.size) := heap_lt hk3
  obtain ⟨y0, y1, y2, y3, y4, y5, y6⟩ := c7_of hk1
  have hdu := during_crash aS cs s al cl l g ph a1 c1 m a2 c2 us f _ (hg.below hB) (H.below hB)
  go_enter Tryz.func157, Tryz.ntmps157
  go_wp2_with fail
  generalize ((w.alloc (RB aS cs s al cl l g ph a1 c1 m a2 c2 us f)).alloc zero28) = W0 at *
  refine hdu.mono ?_
  clear hdu
  rintro e W1 ⟨hb1, hpost⟩
  have kk1 := (hb1.block _ (heap_lt hk3)).trans hk3
  have hB1 := hB.trans (hb1.mono hB.size)
  clear y0 y1 y2 y3 y4 y5 y6 hk1 hk2 hk3 hB hb1
  rcases hpost with ⟨hne, rfl⟩ | ⟨hz, b0, d0, b1, d1, b2, d2, b3, d3, rfl, H1⟩
  · have hzs := set7_same W1 (w.heap.size + 1) 36 (.slice none 0 0) (.slice none 0 0) (.int .i64 0) (.int .i64 0) (.slice none 0 0) (.slice none 0 0) (.bool false) kk1
    obtain ⟨o0, o1, o2, o3, o4, o5, o6⟩ := c7_of kk1
    have fz0 := f_of (o := 0) kk1
    have fz1 := f_of (o := 1) kk1
    have fz2 := f_of (o := 2) kk1
    have fz3 := f_of (o := 3) kk1
    have fz4 := f_of (o := 4) kk1
    have fz5 := f_of (o := 5) kk1
    have fz6 := f_of (o := 6) kk1
    obtain ⟨i0, i1, i2, i3, i4, i5, i6⟩ := c7_of ((hzs.block _ (heap_lt kk1)).trans kk1)
    have HF : Hid (RepPost (repE s l g ph m us f) s l g 0 [] [] false w (.returned (.tuple #[zeroV, .int .i64 (repE s l g ph m us f)])) (((((((W1.setCell ⟨w.heap.size + 1, 0, none⟩ (.slice none 0 0)).setCell ⟨w.heap.size + 1, 1, none⟩ (.slice none 0 0)).setCell ⟨w.heap.size + 1, 2, none⟩ (.int .i64 0)).setCell ⟨w.heap.size + 1, 3, none⟩ (.int .i64 0)).setCell ⟨w.heap.size + 1, 4, none⟩ (.slice none 0 0)).setCell ⟨w.heap.size + 1, 5, none⟩ (.slice none 0 0)).setCell ⟨w.heap.size + 1, 6, none⟩ (.bool false))) := RepPost.bad rfl hne (hB1.trans (hzs.mono hB1.size))
    clear hne kk1 hB1 hzs H
    go_wp2
    refine bodyPost_ret (v := .tuple #[zeroV, .int .i64 (repE s l g ph m us f)]) (by simp [results, Tryz.results157, go_sem, i0, i1, i2, i3, i4, i5, i6]) rfl ?_
    exact HF.out
  · obtain ⟨o0, o1, o2, o3, o4, o5, o6⟩ := c7_of kk1
    have fz0 := f_of (o := 0) kk1
    have fz1 := f_of (o := 1) kk1
    have fz2 := f_of (o := 2) kk1
    have fz3 := f_of (o := 3) kk1
    have fz4 := f_of (o := 4) kk1
    have fz5 := f_of (o := 5) kk1
    have fz6 := f_of (o := 6) kk1
    obtain ⟨s1, s2, s3⟩ := set7_block W1 (w.heap.size + 1) 36 (.slice b0 s.length d0) (.slice b1 l.length d1) (.int .i64 g) (.int .i64 0) (.slice b2 0 d2) (.slice b3 0 d3) (.bool false) kk1
    obtain ⟨i0, i1, i2, i3, i4, i5, i6⟩ := c7_of s1
    have HF : Hid (RepPost (repE s l g ph m us f) s l g 0 [] [] false w (.returned (.tuple #[RV b0 d0 s b1 d1 l g 0 b2 d2 [] b3 d3 [] false, .int .i64 0])) (((((((W1.setCell ⟨w.heap.size + 1, 0, none⟩ (.slice b0 s.length d0)).setCell ⟨w.heap.size + 1, 1, none⟩ (.slice b1 l.length d1)).setCell ⟨w.heap.size + 1, 2, none⟩ (.int .i64 g)).setCell ⟨w.heap.size + 1, 3, none⟩ (.int .i64 0)).setCell ⟨w.heap.size + 1, 4, none⟩ (.slice b2 0 d2)).setCell ⟨w.heap.size + 1, 5, none⟩ (.slice b3 0 d3)).setCell ⟨w.heap.size + 1, 6, none⟩ (.bool false))) :=
      ⟨hB1.trans (s2.mono (by omega)), .inr ⟨hz, b0, d0, b1, d1, b2, d2, b3, d3, rfl, (H1.keep s2.size (fun k hk => s3 k (by have := HZ0.out; omega))).from (by have := HZ0.out; omega)⟩⟩
    clear s1 s2 s3 H1 hz hB1 kk1 H
    go_wp2
    refine bodyPost_ret (v := .tuple #[replV b0 s.length d0 b1 l.length d1 g 0 b2 0 d2 b3 0 d3 false, .int .i64 0]) (by simp [results, Tryz.results157, go_sem, i0, i1, i2, i3, i4, i5, i6]) rfl ?_
    exact HF.out
end

section
open Go.RowKit
set_option maxRecDepth 100000

/-! desk: one replica of a cluster is changed. -/
abbrev boxK (B off cap : Nat) : Obj := .cells #[.slice (some ⟨B, off, none⟩) 3 cap] 138
def ChPost (w0 : World) (L B off cap : Nat) (Q : Nat → Rq) (i : Nat) (E : Int) (R : Rp) (e : Ending) (w' : World) : Prop :=
  Below w0.heap.size w0 w' ∧ ((E ≠ 0 ∧ e = .returned (.tuple #[.bool false, .int .i64 E])) ∨ (E = 0 ∧ e = .returned (.tuple #[.bool true, .int .i64 0]) ∧ ∃ q : Rq, q.r = R ∧ w'.heap[L]? = some (boxK B off cap) ∧ Rw w' w0.heap.size L B off (upd Q i q)))


set_option maxHeartbeats 4000000 in
theorem repair1_any (n r : Rq) (p : Nat) (w : World) (hg : Glob w) (hp : w.heap[p]? = some n.blk) (hn : n.H w) (hr : r.H w) : Calls Tryz.prog 205 #[r.val, .pointer (some ⟨p, 0, none⟩)] w (FromPost n.r r.r w) := by
  obtain ⟨PO, HPO⟩ : ∃ P : Ending → World → Prop, Hid (P = FromPost n.r r.r w) := ⟨_, rfl⟩
  rw [← HPO.out]
  obtain ⟨hk1, hk2⟩ := two_blocks w r.blk zero28
  have hB := below_alloc2 w r.blk zero28
  have hp' := (hB.block _ (heap_lt hp)).trans hp
  obtain ⟨y0, y1, y2, y3, y4, y5, y6⟩ := c7_of hk1
  obtain ⟨x0, x1, x2, x3, x4, x5, x6⟩ := c7_of hp'
  have hc := from_any n r _ (hg.below hB) (hn.below hB) (hr.below hB)
  have HZ0 : Hid (w.heap.size + 1 < ((w.alloc r.blk).alloc zero28).heap.size) := heap_lt hk2
  go_enter Tryz.func205, Tryz.ntmps205
  go_wp2_with fail
  generalize ((w.alloc r.blk).alloc zero28) = W0 at *
  refine hc.mono ?_
  clear hc
  rintro e W1 ⟨hb1, hpost⟩
  have kk1 := (hb1.block _ (heap_lt hk2)).trans hk2
  have hB1 := hB.trans (hb1.mono hB.size)
  clear y0 y1 y2 y3 y4 y5 y6 x0 x1 x2 x3 x4 x5 x6 hk1 hk2 hB hb1 hp'
  rcases hpost with ⟨hne, rfl⟩ | ⟨hz, b0, d0, b1, d1, b2, d2, b3, d3, rfl, H1⟩
  · have hzs := set7_same W1 (w.heap.size + 1) 36 (.slice none 0 0) (.slice none 0 0) (.int .i64 0) (.int .i64 0) (.slice none 0 0) (.slice none 0 0) (.bool false) kk1
    obtain ⟨o0, o1, o2, o3, o4, o5, o6⟩ := c7_of kk1
    have fz0 := f_of (o := 0) kk1
    have fz1 := f_of (o := 1) kk1
    have fz2 := f_of (o := 2) kk1
    have fz3 := f_of (o := 3) kk1
    have fz4 := f_of (o := 4) kk1
    have fz5 := f_of (o := 5) kk1
    have fz6 := f_of (o := 6) kk1
    obtain ⟨i0, i1, i2, i3, i4, i5, i6⟩ := c7_of ((hzs.block _ (heap_lt kk1)).trans kk1)
    have HF : Hid (∀ w', Below w.heap.size w w' → PO (.returned (.tuple #[zeroV, .int .i64 (fromE n.r r.r)])) w') := fun w' hb => by
      rw [HPO.out]; exact RepPost.bad rfl hne hb
    have HB : Hid (Below w.heap.size w _) := hB1.trans (hzs.mono hB1.size)
    clear hne kk1 hB1 hzs
    generalize fromE n.r r.r = E at *
    go_wp2
    refine bodyPost_ret (v := .tuple #[zeroV, .int .i64 E]) (by simp [results, Tryz.results205, go_sem, i0, i1, i2, i3, i4, i5, i6]) rfl ?_
    exact HF.out _ HB.out
  · obtain ⟨o0, o1, o2, o3, o4, o5, o6⟩ := c7_of kk1
    have fz0 := f_of (o := 0) kk1
    have fz1 := f_of (o := 1) kk1
    have fz2 := f_of (o := 2) kk1
    have fz3 := f_of (o := 3) kk1
    have fz4 := f_of (o := 4) kk1
    have fz5 := f_of (o := 5) kk1
    have fz6 := f_of (o := 6) kk1
    obtain ⟨S', hS⟩ : ∃ S', S' = (fromR n.r r.r).s := ⟨_, rfl⟩
    have HS : Hid (S' = (fromR n.r r.r).s) := hS
    rw [← hS] at H1 ⊢
    clear hS
    obtain ⟨s1, s2, s3⟩ := set7_block W1 (w.heap.size + 1) 36 (.slice b0 S'.length d0) (.slice b1 n.r.l.length d1) (.int .i64 n.r.g) (.int .i64 0) (.slice b2 0 d2) (.slice b3 0 d3) (.bool false) kk1
    obtain ⟨i0, i1, i2, i3, i4, i5, i6⟩ := c7_of s1
    have HF : Hid (PO (.returned (.tuple #[RV b0 d0 S' b1 d1 n.r.l n.r.g 0 b2 d2 [] b3 d3 [] false, .int .i64 0])) (((((((W1.setCell ⟨w.heap.size + 1, 0, none⟩ (.slice b0 S'.length d0)).setCell ⟨w.heap.size + 1, 1, none⟩ (.slice b1 n.r.l.length d1)).setCell ⟨w.heap.size + 1, 2, none⟩ (.int .i64 n.r.g)).setCell ⟨w.heap.size + 1, 3, none⟩ (.int .i64 0)).setCell ⟨w.heap.size + 1, 4, none⟩ (.slice b2 0 d2)).setCell ⟨w.heap.size + 1, 5, none⟩ (.slice b3 0 d3)).setCell ⟨w.heap.size + 1, 6, none⟩ (.bool false))) := by
      unfold Hid
      rw [HPO.out]
      refine ⟨hB1.trans (s2.mono (by omega)), .inr ⟨hz, b0, d0, b1, d1, b2, d2, b3, d3, ?_, ?_⟩⟩
      · rw [← HS.out]
      · rw [← HS.out]; exact (H1.keep s2.size (fun k hk => s3 k (by have := HZ0.out; omega))).from (by have := HZ0.out; omega)
    clear s1 s2 s3 H1 hz hB1 kk1
    go_wp2
    refine bodyPost_ret (v := .tuple #[RV b0 d0 S' b1 d1 n.r.l n.r.g 0 b2 d2 [] b3 d3 [] false, .int .i64 0]) (by simp [results, Tryz.results205, go_sem, i0, i1, i2, i3, i4, i5, i6]) rfl ?_
    exact HF.out


set_option maxHeartbeats 4000000 in
theorem crashL_any (r : Rq) (w : World) (hg : Glob w) (hr : r.H w) : Calls Tryz.prog 156 #[r.val] w (RepPost r.r.err r.r.s r.r.l r.r.g 0 [] [] false w) := by
  obtain ⟨PO, HPO⟩ : ∃ P : Ending → World → Prop, Hid (P = RepPost r.r.err r.r.s r.r.l r.r.g 0 [] [] false w) := ⟨_, rfl⟩
  rw [← HPO.out]
  obtain ⟨hk1, hk2⟩ := two_blocks w r.blk zero28
  have hB := below_alloc2 w r.blk zero28
  obtain ⟨y0, y1, y2, y3, y4, y5, y6⟩ := c7_of hk1
  have hc := (show Calls Tryz.prog 157 #[r.val] ((w.alloc r.blk).alloc zero28) (RepPost r.r.err r.r.s r.r.l r.r.g 0 [] [] false ((w.alloc r.blk).alloc zero28)) from crash_any r.aS r.cs r.r.s r.al r.cl r.r.l r.r.g r.r.ph r.a1 r.c1 r.r.m r.a2 r.c2 r.r.us r.r.f _ (hg.below hB) (hr.below hB))
  have HZ0 : Hid (w.heap.size + 1 < ((w.alloc r.blk).alloc zero28).heap.size) := heap_lt hk2
  go_enter Tryz.func156, Tryz.ntmps156
  go_wp2_with fail
  generalize ((w.alloc r.blk).alloc zero28) = W0 at *
  refine hc.mono ?_
  clear hc
  rintro e W1 ⟨hb1, hpost⟩
  have kk1 := (hb1.block _ (heap_lt hk2)).trans hk2
  have hB1 := hB.trans (hb1.mono hB.size)
  clear y0 y1 y2 y3 y4 y5 y6 hk1 hk2 hB hb1
  rcases hpost with ⟨hne, rfl⟩ | ⟨hz, b0, d0, b1, d1, b2, d2, b3, d3, rfl, H1⟩
  · have hzs := set7_same W1 (w.heap.size + 1) 36 (.slice none 0 0) (.slice none 0 0) (.int .i64 0) (.int .i64 0) (.slice none 0 0) (.slice none 0 0) (.bool false) kk1
    obtain ⟨o0, o1, o2, o3, o4, o5, o6⟩ := c7_of kk1
    have fz0 := f_of (o := 0) kk1
    have fz1 := f_of (o := 1) kk1
    have fz2 := f_of (o := 2) kk1
    have fz3 := f_of (o := 3) kk1
    have fz4 := f_of (o := 4) kk1
    have fz5 := f_of (o := 5) kk1
    have fz6 := f_of (o := 6) kk1
    obtain ⟨i0, i1, i2, i3, i4, i5, i6⟩ := c7_of ((hzs.block _ (heap_lt kk1)).trans kk1)
    have HF : Hid (∀ w', Below w.heap.size w w' → PO (.returned (.tuple #[zeroV, .int .i64 (r.r.err)])) w') := fun w' hb => by
      rw [HPO.out]; exact RepPost.bad rfl hne hb
    have HB : Hid (Below w.heap.size w _) := hB1.trans (hzs.mono hB1.size)
    clear hne kk1 hB1 hzs
    generalize r.r.err = E at *
    go_wp2
    refine bodyPost_ret (v := .tuple #[zeroV, .int .i64 E]) (by simp [results, Tryz.results156, go_sem, i0, i1, i2, i3, i4, i5, i6]) rfl ?_
    exact HF.out _ HB.out
  · obtain ⟨o0, o1, o2, o3, o4, o5, o6⟩ := c7_of kk1
    have fz0 := f_of (o := 0) kk1
    have fz1 := f_of (o := 1) kk1
    have fz2 := f_of (o := 2) kk1
    have fz3 := f_of (o := 3) kk1
    have fz4 := f_of (o := 4) kk1
    have fz5 := f_of (o := 5) kk1
    have fz6 := f_of (o := 6) kk1
    obtain ⟨S', hS⟩ : ∃ S', S' = r.r.s := ⟨_, rfl⟩
    have HS : Hid (S' = r.r.s) := hS
    rw [← hS] at H1 ⊢
    clear hS
    obtain ⟨s1, s2, s3⟩ := set7_block W1 (w.heap.size + 1) 36 (.slice b0 S'.length d0) (.slice b1 r.r.l.length d1) (.int .i64 r.r.g) (.int .i64 0) (.slice b2 0 d2) (.slice b3 0 d3) (.bool false) kk1
    obtain ⟨i0, i1, i2, i3, i4, i5, i6⟩ := c7_of s1
    have HF : Hid (PO (.returned (.tuple #[RV b0 d0 S' b1 d1 r.r.l r.r.g 0 b2 d2 [] b3 d3 [] false, .int .i64 0])) (((((((W1.setCell ⟨w.heap.size + 1, 0, none⟩ (.slice b0 S'.length d0)).setCell ⟨w.heap.size + 1, 1, none⟩ (.slice b1 r.r.l.length d1)).setCell ⟨w.heap.size + 1, 2, none⟩ (.int .i64 r.r.g)).setCell ⟨w.heap.size + 1, 3, none⟩ (.int .i64 0)).setCell ⟨w.heap.size + 1, 4, none⟩ (.slice b2 0 d2)).setCell ⟨w.heap.size + 1, 5, none⟩ (.slice b3 0 d3)).setCell ⟨w.heap.size + 1, 6, none⟩ (.bool false))) := by
      unfold Hid
      rw [HPO.out]
      refine ⟨hB1.trans (s2.mono (by omega)), .inr ⟨hz, b0, d0, b1, d1, b2, d2, b3, d3, ?_, ?_⟩⟩
      · rw [← HS.out]
      · rw [← HS.out]; exact (H1.keep s2.size (fun k hk => s3 k (by have := HZ0.out; omega))).from (by have := HZ0.out; omega)
    clear s1 s2 s3 H1 hz hB1 kk1
    go_wp2
    refine bodyPost_ret (v := .tuple #[RV b0 d0 S' b1 d1 r.r.l r.r.g 0 b2 d2 [] b3 d3 [] false, .int .i64 0]) (by simp [results, Tryz.results156, go_sem, i0, i1, i2, i3, i4, i5, i6]) rfl ?_
    exact HF.out
end

section
open Go.RowKit
set_option maxRecDepth 100000

set_option maxHeartbeats 8000000 in
theorem changeC_any (w0 : World) (L B off cap : Nat) (Q : Nat → Rq) (i : Nat) (hi : i < 3) (E : Int) (s : List Ob) (l : List Rf) (g : Int) (w : World) (hb0 : Below w0.heap.size w0 w) (hLz : w0.heap.size ≤ L) (hL : w.heap[L]? = some (boxK B off cap)) (hd : Rw w w0.heap.size L B off Q)
    (hcall : Calls Tryz.prog 156 #[(Q i).val] w (RepPost E s l g 0 [] [] false w)) :
    Calls Tryz.prog 155 #[.pointer (some ⟨L, 0, none⟩), .int .i64 (i : Int), .func (.func 156) #[] #[]] w (ChPost w0 L B off cap Q i E ⟨s, l, g, 0, [], [], false⟩) := by
  obtain ⟨PO, HPO⟩ : ∃ P : Ending → World → Prop, Hid (P = ChPost w0 L B off cap Q i E ⟨s, l, g, 0, [], [], false⟩) := ⟨_, rfl⟩
  rw [← HPO.out]
  have yh : w.cell? ⟨L, 0, none⟩ = some (.slice (some ⟨B, off, none⟩) 3 cap) := by rw [cell_of_row _ _ _ _ _ _ hL]; rfl
  obtain ⟨x0, x1, x2, x3, x4, x5, x6⟩ := hd.row i hi
  have hi' : (i : Int) < 3 := by omega
  go_enter Tryz.func155, Tryz.ntmps155
  go_wp2_with fail
  refine hcall.mono ?_
  clear hcall x0 x1 x2 x3 x4 x5 x6 yh
  rintro e W2 ⟨hb2, hpost⟩
  have HB2 := hb0.trans (hb2.mono hb0.size)
  have HR2 := hd.below hb2
  have HL2 := (hb2.block _ (heap_lt hL)).trans hL
  have hz2 := hb2.size
  have hLr := heap_lt hL
  have hzW0 := hb0.size
  have hBr := hd.ltB
  clear hb0 hd hL hb2
  rcases hpost with ⟨hne, rfl⟩ | ⟨hz, b0, d0, b1, d1, b2, d2, b3, d3, rfl, F⟩
  · have HF : Hid (∀ w', Below w0.heap.size w0 w' → PO (.returned (.tuple #[.bool false, .int .i64 E])) w') := fun w' h1 => by rw [HPO.out]; exact ⟨h1, .inl ⟨hne, rfl⟩⟩
    have q1 : (E != 0) = true := by simpa using hne
    have hA := below_alloc W2 zero28
    have HB3 := HB2.trans (hA.mono HB2.size)
    clear hne HR2 HL2 hA HB2
    go_wp2
    exact HF.out _ HB3
  obtain ⟨q, hqr, hqv, hqF⟩ : ∃ q : Rq, q.r = ⟨s, l, g, 0, [], [], false⟩ ∧ RV b0 d0 s b1 d1 l g 0 b2 d2 [] b3 d3 [] false = q.val ∧ RepF W2 w.heap.size q.aS q.cs q.r.s q.al q.cl q.r.l q.a1 q.c1 q.r.m q.a2 q.c2 q.r.us := ⟨⟨⟨s, l, g, 0, [], [], false⟩, b0, d0, b1, d1, b2, d2, b3, d3⟩, rfl, rfl, F⟩
  have HQR : Hid (q.r = ⟨s, l, g, 0, [], [], false⟩) := hqr
  have HE0 : Hid (E = 0) := hz
  have HAq := Away.fresh hqF (z := w0.heap.size) (P := fun k => k = B ∨ k = L) hzW0 (fun j hj => by rcases hj with rfl | rfl <;> omega)
  rw [hqv]
  clear hqv hqF F hqr hz
  have hA := below_alloc W2 q.blk
  have kq := heap_alloc_new W2 q.blk
  have HB3 := HB2.trans (hA.mono HB2.size)
  have HR3 := HR2.below hA
  have HL3 := (hA.block _ (heap_lt HL2)).trans HL2
  have HAq3 := HAq.below hA
  have hLp0 : W2.heap.size ≠ L := by omega
  have hBp0 : W2.heap.size ≠ B := by omega
  go_upto_region 4 with fail
  generalize W2.alloc q.blk = W3 at *
  obtain ⟨pq, hpq⟩ : ∃ pq, pq = W2.heap.size := ⟨_, rfl⟩
  rw [← hpq] at kq hLp0 hBp0 ⊢
  have hLp : pq ≠ L := hLp0
  have hBp : pq ≠ B := hBp0
  clear hpq HB2 HR2 HL2 HAq hA hLp0 hBp0
  have hdr := below_refl_drew W3
  have HB4 := HB3.trans (hdr.mono HB3.size)
  have HR4 := HR3.below hdr
  have HL4 := (hdr.block _ (heap_lt HL3)).trans HL3
  have HAD := HAq3.below hdr
  have kqD := (hdr.block _ (heap_lt kq)).trans kq
  have hS0 : W3.drew.cell? ⟨L, 0, none⟩ = some (.slice (some ⟨B, off, none⟩) 3 cap) ∧ (W3.drew.cell? ⟨pq, 0, none⟩ = some (.slice q.aS q.r.s.length q.cs) ∧ W3.drew.cell? ⟨pq, 1, none⟩ = some (.slice q.al q.r.l.length q.cl) ∧ W3.drew.cell? ⟨pq, 2, none⟩ = some (.int .i64 q.r.g) ∧ W3.drew.cell? ⟨pq, 3, none⟩ = some (.int .i64 q.r.ph) ∧ W3.drew.cell? ⟨pq, 4, none⟩ = some (.slice q.a1 q.r.m.length q.c1) ∧ W3.drew.cell? ⟨pq, 5, none⟩ = some (.slice q.a2 q.r.us.length q.c2) ∧ W3.drew.cell? ⟨pq, 6, none⟩ = some (.bool q.r.f)) := ⟨by rw [cell_of_row _ _ _ _ _ _ HL4]; rfl, c7_of kqD⟩
  refine wp_region_E (fun W => W.cell? ⟨L, 0, none⟩ = some (.slice (some ⟨B, off, none⟩) 3 cap) ∧ (W.cell? ⟨pq, 0, none⟩ = some (.slice q.aS q.r.s.length q.cs) ∧ W.cell? ⟨pq, 1, none⟩ = some (.slice q.al q.r.l.length q.cl) ∧ W.cell? ⟨pq, 2, none⟩ = some (.int .i64 q.r.g) ∧ W.cell? ⟨pq, 3, none⟩ = some (.int .i64 q.r.ph) ∧ W.cell? ⟨pq, 4, none⟩ = some (.slice q.a1 q.r.m.length q.c1) ∧ W.cell? ⟨pq, 5, none⟩ = some (.slice q.a2 q.r.us.length q.c2) ∧ W.cell? ⟨pq, 6, none⟩ = some (.bool q.r.f))) (fun _ => false) (by kernel_rfl) hS0 (fun hS => ?_)
  generalize W3.drew = W1 at *
  clear hS0 hdr HB3 HR3 HL3 HAq3 kq
  refine wpAnyE.take (i := 0) (v := ?_) rfl (by kernel_rfl) (by kernel_rfl) (by kernel_rfl) (by kernel_rfl) (fun _ _ _ h => h) (Or.inl ⟨by rfl, ?_⟩) (by assumption) ?_
  rotate_left
  · intro w hSw; obtain ⟨s0, r0, r1, r2, r3, r4, r5, r6⟩ := hSw; go_simp; with_reducible rfl
  try simp only [Act.put, uA, uC, uD, uE, uF]
  refine wpAnyE.take (i := 1) (v := ?_) rfl (by kernel_rfl) (by kernel_rfl) (by kernel_rfl) (by kernel_rfl) (fun _ _ _ h => h) (Or.inl ⟨by rfl, ?_⟩) (by assumption) ?_
  rotate_left
  · intro w hSw; obtain ⟨s0, r0, r1, r2, r3, r4, r5, r6⟩ := hSw; go_simp; with_reducible rfl
  try simp only [Act.put, uA, uB, uC, uD, uE, uF]
  refine wpAnyE.take (i := 2) (v := ?_) rfl (by kernel_rfl) (by kernel_rfl) (by kernel_rfl) (by kernel_rfl) (fun _ _ _ h => h) (Or.inl ⟨by rfl, ?_⟩) (by assumption) ?_
  rotate_left
  · intro w hSw; obtain ⟨s0, r0, r1, r2, r3, r4, r5, r6⟩ := hSw; go_simp; with_reducible rfl
  try simp only [Act.put, uA, uB, uC, uD, uE, uF]
  refine wpAnyE.take (i := 3) (v := ?_) rfl (by kernel_rfl) (by kernel_rfl) (by kernel_rfl) (by kernel_rfl) (fun _ _ _ h => h) (Or.inl ⟨by rfl, ?_⟩) (by assumption) ?_
  rotate_left
  · intro w hSw; obtain ⟨s0, r0, r1, r2, r3, r4, r5, r6⟩ := hSw; go_simp; with_reducible rfl
  try simp only [Act.put, uA, uB, uC, uD, uE, uF]
  refine wpAnyE.take (i := 4) (v := ?_) rfl (by kernel_rfl) (by kernel_rfl) (by kernel_rfl) (by kernel_rfl) (fun _ _ _ h => h) (Or.inl ⟨by rfl, ?_⟩) (by assumption) ?_
  rotate_left
  · intro w hSw; obtain ⟨s0, r0, r1, r2, r3, r4, r5, r6⟩ := hSw; go_simp; with_reducible rfl
  try simp only [Act.put, uA, uB, uC, uD, uE, uF]
  refine wpAnyE.take (i := 5) (v := ?_) rfl (by kernel_rfl) (by kernel_rfl) (by kernel_rfl) (by kernel_rfl) (fun _ _ _ h => h) (Or.inl ⟨by rfl, ?_⟩) (by assumption) ?_
  rotate_left
  · intro w hSw; obtain ⟨s0, r0, r1, r2, r3, r4, r5, r6⟩ := hSw; go_simp; with_reducible rfl
  try simp only [Act.put, uA, uB, uC, uD, uE, uF]
  refine wpAnyE.take (i := 6) (v := ?_) rfl (by kernel_rfl) (by kernel_rfl) (by kernel_rfl) (by kernel_rfl) (fun _ _ _ h => h) (Or.inl ⟨by rfl, ?_⟩) (by assumption) ?_
  rotate_left
  · intro w hSw; obtain ⟨s0, r0, r1, r2, r3, r4, r5, r6⟩ := hSw; go_simp; with_reducible rfl
  try simp only [Act.put, uA, uB, uC, uD, uE, uF]
  refine wpAnyE.take (i := 7) (v := ?_) rfl (by kernel_rfl) (by kernel_rfl) (by kernel_rfl) (by kernel_rfl) (fun _ _ _ h => h) (Or.inl ⟨by rfl, ?_⟩) (by assumption) ?_
  rotate_left
  · intro w hSw; obtain ⟨s0, r0, r1, r2, r3, r4, r5, r6⟩ := hSw; go_simp; with_reducible rfl
  try simp only [Act.put, uA, uB, uC, uD, uE, uF]
  refine wpAnyE.one (i := 8) (by kernel_rfl) rfl (fun K hK => ?_)
  obtain ⟨u0, u1, u2, u3, u4, u5, u6⟩ := HR4.row i hi
  obtain ⟨cb, kb5⟩ := HR4.hB
  have fb0 := f_of (o := off + i * 7) kb5
  have fb1 := f_of (o := off + i * 7 + 1) kb5
  have fb2 := f_of (o := off + i * 7 + 2) kb5
  have fb3 := f_of (o := off + i * 7 + 3) kb5
  have fb4 := f_of (o := off + i * 7 + 4) kb5
  have fb5 := f_of (o := off + i * 7 + 5) kb5
  have fb6 := f_of (o := off + i * 7 + 6) kb5
  have HR6 := HR4.row_set hi q HAD
  have hb6 : ∀ j, j ≠ B → (set7 W1 B (off + i * 7) (.slice q.aS q.r.s.length q.cs) (.slice q.al q.r.l.length q.cl) (.int .i64 q.r.g) (.int .i64 q.r.ph) (.slice q.a1 q.r.m.length q.c1) (.slice q.a2 q.r.us.length q.c2) (.bool q.r.f)).heap[j]? = W1.heap[j]? := fun j hj => set7_blk W1 B (off + i * 7) j _ _ _ _ _ _ _ hj
  have HL6 := (hb6 L HR4.ne).trans HL4
  have HB6 : Below w0.heap.size w0 (set7 W1 B (off + i * 7) (.slice q.aS q.r.s.length q.cs) (.slice q.al q.r.l.length q.cl) (.int .i64 q.r.g) (.int .i64 q.r.ph) (.slice q.a1 q.r.m.length q.c1) (.slice q.a2 q.r.us.length q.c2) (.bool q.r.f)) := below_set7 _ _ _ _ _ _ _ HB4 HR4.zb
  have kq6 := (hb6 pq hBp).trans kqD
  have hS6 : (set7 W1 B (off + i * 7) (.slice q.aS q.r.s.length q.cs) (.slice q.al q.r.l.length q.cl) (.int .i64 q.r.g) (.int .i64 q.r.ph) (.slice q.a1 q.r.m.length q.c1) (.slice q.a2 q.r.us.length q.c2) (.bool q.r.f)).cell? ⟨L, 0, none⟩ = some (.slice (some ⟨B, off, none⟩) 3 cap) ∧ ((set7 W1 B (off + i * 7) (.slice q.aS q.r.s.length q.cs) (.slice q.al q.r.l.length q.cl) (.int .i64 q.r.g) (.int .i64 q.r.ph) (.slice q.a1 q.r.m.length q.c1) (.slice q.a2 q.r.us.length q.c2) (.bool q.r.f)).cell? ⟨pq, 0, none⟩ = some (.slice q.aS q.r.s.length q.cs) ∧ (set7 W1 B (off + i * 7) (.slice q.aS q.r.s.length q.cs) (.slice q.al q.r.l.length q.cl) (.int .i64 q.r.g) (.int .i64 q.r.ph) (.slice q.a1 q.r.m.length q.c1) (.slice q.a2 q.r.us.length q.c2) (.bool q.r.f)).cell? ⟨pq, 1, none⟩ = some (.slice q.al q.r.l.length q.cl) ∧ (set7 W1 B (off + i * 7) (.slice q.aS q.r.s.length q.cs) (.slice q.al q.r.l.length q.cl) (.int .i64 q.r.g) (.int .i64 q.r.ph) (.slice q.a1 q.r.m.length q.c1) (.slice q.a2 q.r.us.length q.c2) (.bool q.r.f)).cell? ⟨pq, 2, none⟩ = some (.int .i64 q.r.g) ∧ (set7 W1 B (off + i * 7) (.slice q.aS q.r.s.length q.cs) (.slice q.al q.r.l.length q.cl) (.int .i64 q.r.g) (.int .i64 q.r.ph) (.slice q.a1 q.r.m.length q.c1) (.slice q.a2 q.r.us.length q.c2) (.bool q.r.f)).cell? ⟨pq, 3, none⟩ = some (.int .i64 q.r.ph) ∧ (set7 W1 B (off + i * 7) (.slice q.aS q.r.s.length q.cs) (.slice q.al q.r.l.length q.cl) (.int .i64 q.r.g) (.int .i64 q.r.ph) (.slice q.a1 q.r.m.length q.c1) (.slice q.a2 q.r.us.length q.c2) (.bool q.r.f)).cell? ⟨pq, 4, none⟩ = some (.slice q.a1 q.r.m.length q.c1) ∧ (set7 W1 B (off + i * 7) (.slice q.aS q.r.s.length q.cs) (.slice q.al q.r.l.length q.cl) (.int .i64 q.r.g) (.int .i64 q.r.ph) (.slice q.a1 q.r.m.length q.c1) (.slice q.a2 q.r.us.length q.c2) (.bool q.r.f)).cell? ⟨pq, 5, none⟩ = some (.slice q.a2 q.r.us.length q.c2) ∧ (set7 W1 B (off + i * 7) (.slice q.aS q.r.s.length q.cs) (.slice q.al q.r.l.length q.cl) (.int .i64 q.r.g) (.int .i64 q.r.ph) (.slice q.a1 q.r.m.length q.c1) (.slice q.a2 q.r.us.length q.c2) (.bool q.r.f)).cell? ⟨pq, 6, none⟩ = some (.bool q.r.f)) := ⟨by rw [cell_of_row _ _ _ _ _ _ HL6]; rfl, c7_of kq6⟩
  clear HL4 HB4 kqD hb6
  go_simp
  refine hK _ _ (fun _ => hS6) ?_
  clear hK K
  try simp only [Act.put, uA, uB, uC, uD, uE, uF]
  generalize hW6 : (set7 W1 B (off + i * 7) (.slice q.aS q.r.s.length q.cs) (.slice q.al q.r.l.length q.cl) (.int .i64 q.r.g) (.int .i64 q.r.ph) (.slice q.a1 q.r.m.length q.c1) (.slice q.a2 q.r.us.length q.c2) (.bool q.r.f)) = W6 at HR6 HL6 HB6 kq6 hS6
  unfold set7 at hW6
  rw [hW6]
  clear hW6 u0 u1 u2 u3 u4 u5 u6 fb0 fb1 fb2 fb3 fb4 fb5 fb6 kb5 HR4 hS6 kq6 HAD
  refine wpAnyE.done (by kernel_rfl) ?_
  have HF : Hid (PO (.returned (.tuple #[.bool true, .int .i64 0])) W6) := by
    unfold Hid
    rw [HPO.out]
    exact ⟨HB6, .inr ⟨HE0.out, rfl, q, HQR.out, HL6, HR6⟩⟩
  clear HR6 HB6 HL6
  go_wp2
  exact HF.out

set_option maxHeartbeats 8000000 in
theorem changeR_any (w0 : World) (L B off cap : Nat) (Q : Nat → Rq) (i : Nat) (hi : i < 3) (p : Nat) (E : Int) (s : List Ob) (l : List Rf) (g : Int) (w : World) (hb0 : Below w0.heap.size w0 w) (hLz : w0.heap.size ≤ L) (hL : w.heap[L]? = some (boxK B off cap)) (hd : Rw w w0.heap.size L B off Q)
    (hcall : Calls Tryz.prog 205 #[(Q i).val, .pointer (some ⟨p, 0, none⟩)] w (RepPost E s l g 0 [] [] false w)) :
    Calls Tryz.prog 155 #[.pointer (some ⟨L, 0, none⟩), .int .i64 (i : Int), .func (.func 205) #[] #[.pointer (some ⟨p, 0, none⟩)]] w (ChPost w0 L B off cap Q i E ⟨s, l, g, 0, [], [], false⟩) := by
  obtain ⟨PO, HPO⟩ : ∃ P : Ending → World → Prop, Hid (P = ChPost w0 L B off cap Q i E ⟨s, l, g, 0, [], [], false⟩) := ⟨_, rfl⟩
  rw [← HPO.out]
  have yh : w.cell? ⟨L, 0, none⟩ = some (.slice (some ⟨B, off, none⟩) 3 cap) := by rw [cell_of_row _ _ _ _ _ _ hL]; rfl
  obtain ⟨x0, x1, x2, x3, x4, x5, x6⟩ := hd.row i hi
  have hi' : (i : Int) < 3 := by omega
  go_enter Tryz.func155, Tryz.ntmps155
  go_wp2_with fail
  refine hcall.mono ?_
  clear hcall x0 x1 x2 x3 x4 x5 x6 yh
  rintro e W2 ⟨hb2, hpost⟩
  have HB2 := hb0.trans (hb2.mono hb0.size)
  have HR2 := hd.below hb2
  have HL2 := (hb2.block _ (heap_lt hL)).trans hL
  have hz2 := hb2.size
  have hLr := heap_lt hL
  have hzW0 := hb0.size
  have hBr := hd.ltB
  clear hb0 hd hL hb2
  rcases hpost with ⟨hne, rfl⟩ | ⟨hz, b0, d0, b1, d1, b2, d2, b3, d3, rfl, F⟩
  · have HF : Hid (∀ w', Below w0.heap.size w0 w' → PO (.returned (.tuple #[.bool false, .int .i64 E])) w') := fun w' h1 => by rw [HPO.out]; exact ⟨h1, .inl ⟨hne, rfl⟩⟩
    have q1 : (E != 0) = true := by simpa using hne
    have hA := below_alloc W2 zero28
    have HB3 := HB2.trans (hA.mono HB2.size)
    clear hne HR2 HL2 hA HB2
    go_wp2
    exact HF.out _ HB3
  obtain ⟨q, hqr, hqv, hqF⟩ : ∃ q : Rq, q.r = ⟨s, l, g, 0, [], [], false⟩ ∧ RV b0 d0 s b1 d1 l g 0 b2 d2 [] b3 d3 [] false = q.val ∧ RepF W2 w.heap.size q.aS q.cs q.r.s q.al q.cl q.r.l q.a1 q.c1 q.r.m q.a2 q.c2 q.r.us := ⟨⟨⟨s, l, g, 0, [], [], false⟩, b0, d0, b1, d1, b2, d2, b3, d3⟩, rfl, rfl, F⟩
  have HQR : Hid (q.r = ⟨s, l, g, 0, [], [], false⟩) := hqr
  have HE0 : Hid (E = 0) := hz
  have HAq := Away.fresh hqF (z := w0.heap.size) (P := fun k => k = B ∨ k = L) hzW0 (fun j hj => by rcases hj with rfl | rfl <;> omega)
  rw [hqv]
  clear hqv hqF F hqr hz
  have hA := below_alloc W2 q.blk
  have kq := heap_alloc_new W2 q.blk
  have HB3 := HB2.trans (hA.mono HB2.size)
  have HR3 := HR2.below hA
  have HL3 := (hA.block _ (heap_lt HL2)).trans HL2
  have HAq3 := HAq.below hA
  have hLp0 : W2.heap.size ≠ L := by omega
  have hBp0 : W2.heap.size ≠ B := by omega
  go_upto_region 4 with fail
  generalize W2.alloc q.blk = W3 at *
  obtain ⟨pq, hpq⟩ : ∃ pq, pq = W2.heap.size := ⟨_, rfl⟩
  rw [← hpq] at kq hLp0 hBp0 ⊢
  have hLp : pq ≠ L := hLp0
  have hBp : pq ≠ B := hBp0
  clear hpq HB2 HR2 HL2 HAq hA hLp0 hBp0
  have hdr := below_refl_drew W3
  have HB4 := HB3.trans (hdr.mono HB3.size)
  have HR4 := HR3.below hdr
  have HL4 := (hdr.block _ (heap_lt HL3)).trans HL3
  have HAD := HAq3.below hdr
  have kqD := (hdr.block _ (heap_lt kq)).trans kq
  have hS0 : W3.drew.cell? ⟨L, 0, none⟩ = some (.slice (some ⟨B, off, none⟩) 3 cap) ∧ (W3.drew.cell? ⟨pq, 0, none⟩ = some (.slice q.aS q.r.s.length q.cs) ∧ W3.drew.cell? ⟨pq, 1, none⟩ = some (.slice q.al q.r.l.length q.cl) ∧ W3.drew.cell? ⟨pq, 2, none⟩ = some (.int .i64 q.r.g) ∧ W3.drew.cell? ⟨pq, 3, none⟩ = some (.int .i64 q.r.ph) ∧ W3.drew.cell? ⟨pq, 4, none⟩ = some (.slice q.a1 q.r.m.length q.c1) ∧ W3.drew.cell? ⟨pq, 5, none⟩ = some (.slice q.a2 q.r.us.length q.c2) ∧ W3.drew.cell? ⟨pq, 6, none⟩ = some (.bool q.r.f)) := ⟨by rw [cell_of_row _ _ _ _ _ _ HL4]; rfl, c7_of kqD⟩
  refine wp_region_E (fun W => W.cell? ⟨L, 0, none⟩ = some (.slice (some ⟨B, off, none⟩) 3 cap) ∧ (W.cell? ⟨pq, 0, none⟩ = some (.slice q.aS q.r.s.length q.cs) ∧ W.cell? ⟨pq, 1, none⟩ = some (.slice q.al q.r.l.length q.cl) ∧ W.cell? ⟨pq, 2, none⟩ = some (.int .i64 q.r.g) ∧ W.cell? ⟨pq, 3, none⟩ = some (.int .i64 q.r.ph) ∧ W.cell? ⟨pq, 4, none⟩ = some (.slice q.a1 q.r.m.length q.c1) ∧ W.cell? ⟨pq, 5, none⟩ = some (.slice q.a2 q.r.us.length q.c2) ∧ W.cell? ⟨pq, 6, none⟩ = some (.bool q.r.f))) (fun _ => false) (by kernel_rfl) hS0 (fun hS => ?_)
  generalize W3.drew = W1 at *
  clear hS0 hdr HB3 HR3 HL3 HAq3 kq
  refine wpAnyE.take (i := 0) (v := ?_) rfl (by kernel_rfl) (by kernel_rfl) (by kernel_rfl) (by kernel_rfl) (fun _ _ _ h => h) (Or.inl ⟨by rfl, ?_⟩) (by assumption) ?_
  rotate_left
  · intro w hSw; obtain ⟨s0, r0, r1, r2, r3, r4, r5, r6⟩ := hSw; go_simp; with_reducible rfl
  try simp only [Act.put, uA, uC, uD, uE, uF]
  refine wpAnyE.take (i := 1) (v := ?_) rfl (by kernel_rfl) (by kernel_rfl) (by kernel_rfl) (by kernel_rfl) (fun _ _ _ h => h) (Or.inl ⟨by rfl, ?_⟩) (by assumption) ?_
  rotate_left
  · intro w hSw; obtain ⟨s0, r0, r1, r2, r3, r4, r5, r6⟩ := hSw; go_simp; with_reducible rfl
  try simp only [Act.put, uA, uB, uC, uD, uE, uF]
  refine wpAnyE.take (i := 2) (v := ?_) rfl (by kernel_rfl) (by kernel_rfl) (by kernel_rfl) (by kernel_rfl) (fun _ _ _ h => h) (Or.inl ⟨by rfl, ?_⟩) (by assumption) ?_
  rotate_left
  · intro w hSw; obtain ⟨s0, r0, r1, r2, r3, r4, r5, r6⟩ := hSw; go_simp; with_reducible rfl
  try simp only [Act.put, uA, uB, uC, uD, uE, uF]
  refine wpAnyE.take (i := 3) (v := ?_) rfl (by kernel_rfl) (by kernel_rfl) (by kernel_rfl) (by kernel_rfl) (fun _ _ _ h => h) (Or.inl ⟨by rfl, ?_⟩) (by assumption) ?_
  rotate_left
  · intro w hSw; obtain ⟨s0, r0, r1, r2, r3, r4, r5, r6⟩ := hSw; go_simp; with_reducible rfl
  try simp only [Act.put, uA, uB, uC, uD, uE, uF]
  refine wpAnyE.take (i := 4) (v := ?_) rfl (by kernel_rfl) (by kernel_rfl) (by kernel_rfl) (by kernel_rfl) (fun _ _ _ h => h) (Or.inl ⟨by rfl, ?_⟩) (by assumption) ?_
  rotate_left
  · intro w hSw; obtain ⟨s0, r0, r1, r2, r3, r4, r5, r6⟩ := hSw; go_simp; with_reducible rfl
  try simp only [Act.put, uA, uB, uC, uD, uE, uF]
  refine wpAnyE.take (i := 5) (v := ?_) rfl (by kernel_rfl) (by kernel_rfl) (by kernel_rfl) (by kernel_rfl) (fun _ _ _ h => h) (Or.inl ⟨by rfl, ?_⟩) (by assumption) ?_
  rotate_left
  · intro w hSw; obtain ⟨s0, r0, r1, r2, r3, r4, r5, r6⟩ := hSw; go_simp; with_reducible rfl
  try simp only [Act.put, uA, uB, uC, uD, uE, uF]
  refine wpAnyE.take (i := 6) (v := ?_) rfl (by kernel_rfl) (by kernel_rfl) (by kernel_rfl) (by kernel_rfl) (fun _ _ _ h => h) (Or.inl ⟨by rfl, ?_⟩) (by assumption) ?_
  rotate_left
  · intro w hSw; obtain ⟨s0, r0, r1, r2, r3, r4, r5, r6⟩ := hSw; go_simp; with_reducible rfl
  try simp only [Act.put, uA, uB, uC, uD, uE, uF]
  refine wpAnyE.take (i := 7) (v := ?_) rfl (by kernel_rfl) (by kernel_rfl) (by kernel_rfl) (by kernel_rfl) (fun _ _ _ h => h) (Or.inl ⟨by rfl, ?_⟩) (by assumption) ?_
  rotate_left
  · intro w hSw; obtain ⟨s0, r0, r1, r2, r3, r4, r5, r6⟩ := hSw; go_simp; with_reducible rfl
  try simp only [Act.put, uA, uB, uC, uD, uE, uF]
  refine wpAnyE.one (i := 8) (by kernel_rfl) rfl (fun K hK => ?_)
  obtain ⟨u0, u1, u2, u3, u4, u5, u6⟩ := HR4.row i hi
  obtain ⟨cb, kb5⟩ := HR4.hB
  have fb0 := f_of (o := off + i * 7) kb5
  have fb1 := f_of (o := off + i * 7 + 1) kb5
  have fb2 := f_of (o := off + i * 7 + 2) kb5
  have fb3 := f_of (o := off + i * 7 + 3) kb5
  have fb4 := f_of (o := off + i * 7 + 4) kb5
  have fb5 := f_of (o := off + i * 7 + 5) kb5
  have fb6 := f_of (o := off + i * 7 + 6) kb5
  have HR6 := HR4.row_set hi q HAD
  have hb6 : ∀ j, j ≠ B → (set7 W1 B (off + i * 7) (.slice q.aS q.r.s.length q.cs) (.slice q.al q.r.l.length q.cl) (.int .i64 q.r.g) (.int .i64 q.r.ph) (.slice q.a1 q.r.m.length q.c1) (.slice q.a2 q.r.us.length q.c2) (.bool q.r.f)).heap[j]? = W1.heap[j]? := fun j hj => set7_blk W1 B (off + i * 7) j _ _ _ _ _ _ _ hj
  have HL6 := (hb6 L HR4.ne).trans HL4
  have HB6 : Below w0.heap.size w0 (set7 W1 B (off + i * 7) (.slice q.aS q.r.s.length q.cs) (.slice q.al q.r.l.length q.cl) (.int .i64 q.r.g) (.int .i64 q.r.ph) (.slice q.a1 q.r.m.length q.c1) (.slice q.a2 q.r.us.length q.c2) (.bool q.r.f)) := below_set7 _ _ _ _ _ _ _ HB4 HR4.zb
  have kq6 := (hb6 pq hBp).trans kqD
  have hS6 : (set7 W1 B (off + i * 7) (.slice q.aS q.r.s.length q.cs) (.slice q.al q.r.l.length q.cl) (.int .i64 q.r.g) (.int .i64 q.r.ph) (.slice q.a1 q.r.m.length q.c1) (.slice q.a2 q.r.us.length q.c2) (.bool q.r.f)).cell? ⟨L, 0, none⟩ = some (.slice (some ⟨B, off, none⟩) 3 cap) ∧ ((set7 W1 B (off + i * 7) (.slice q.aS q.r.s.length q.cs) (.slice q.al q.r.l.length q.cl) (.int .i64 q.r.g) (.int .i64 q.r.ph) (.slice q.a1 q.r.m.length q.c1) (.slice q.a2 q.r.us.length q.c2) (.bool q.r.f)).cell? ⟨pq, 0, none⟩ = some (.slice q.aS q.r.s.length q.cs) ∧ (set7 W1 B (off + i * 7) (.slice q.aS q.r.s.length q.cs) (.slice q.al q.r.l.length q.cl) (.int .i64 q.r.g) (.int .i64 q.r.ph) (.slice q.a1 q.r.m.length q.c1) (.slice q.a2 q.r.us.length q.c2) (.bool q.r.f)).cell? ⟨pq, 1, none⟩ = some (.slice q.al q.r.l.length q.cl) ∧ (set7 W1 B (off + i * 7) (.slice q.aS q.r.s.length q.cs) (.slice q.al q.r.l.length q.cl) (.int .i64 q.r.g) (.int .i64 q.r.ph) (.slice q.a1 q.r.m.length q.c1) (.slice q.a2 q.r.us.length q.c2) (.bool q.r.f)).cell? ⟨pq, 2, none⟩ = some (.int .i64 q.r.g) ∧ (set7 W1 B (off + i * 7) (.slice q.aS q.r.s.length q.cs) (.slice q.al q.r.l.length q.cl) (.int .i64 q.r.g) (.int .i64 q.r.ph) (.slice q.a1 q.r.m.length q.c1) (.slice q.a2 q.r.us.length q.c2) (.bool q.r.f)).cell? ⟨pq, 3, none⟩ = some (.int .i64 q.r.ph) ∧ (set7 W1 B (off + i * 7) (.slice q.aS q.r.s.length q.cs) (.slice q.al q.r.l.length q.cl) (.int .i64 q.r.g) (.int .i64 q.r.ph) (.slice q.a1 q.r.m.length q.c1) (.slice q.a2 q.r.us.length q.c2) (.bool q.r.f)).cell? ⟨pq, 4, none⟩ = some (.slice q.a1 q.r.m.length q.c1) ∧ (set7 W1 B (off + i * 7) (.slice q.aS q.r.s.length q.cs) (.slice q.al q.r.l.length q.cl) (.int .i64 q.r.g) (.int .i64 q.r.ph) (.slice q.a1 q.r.m.length q.c1) (.slice q.a2 q.r.us.length q.c2) (.bool q.r.f)).cell? ⟨pq, 5, none⟩ = some (.slice q.a2 q.r.us.length q.c2) ∧ (set7 W1 B (off + i * 7) (.slice q.aS q.r.s.length q.cs) (.slice q.al q.r.l.length q.cl) (.int .i64 q.r.g) (.int .i64 q.r.ph) (.slice q.a1 q.r.m.length q.c1) (.slice q.a2 q.r.us.length q.c2) (.bool q.r.f)).cell? ⟨pq, 6, none⟩ = some (.bool q.r.f)) := ⟨by rw [cell_of_row _ _ _ _ _ _ HL6]; rfl, c7_of kq6⟩
  clear HL4 HB4 kqD hb6
  go_simp
  refine hK _ _ (fun _ => hS6) ?_
  clear hK K
  try simp only [Act.put, uA, uB, uC, uD, uE, uF]
  generalize hW6 : (set7 W1 B (off + i * 7) (.slice q.aS q.r.s.length q.cs) (.slice q.al q.r.l.length q.cl) (.int .i64 q.r.g) (.int .i64 q.r.ph) (.slice q.a1 q.r.m.length q.c1) (.slice q.a2 q.r.us.length q.c2) (.bool q.r.f)) = W6 at HR6 HL6 HB6 kq6 hS6
  unfold set7 at hW6
  rw [hW6]
  clear hW6 u0 u1 u2 u3 u4 u5 u6 fb0 fb1 fb2 fb3 fb4 fb5 fb6 kb5 HR4 hS6 kq6 HAD
  refine wpAnyE.done (by kernel_rfl) ?_
  have HF : Hid (PO (.returned (.tuple #[.bool true, .int .i64 0])) W6) := by
    unfold Hid
    rw [HPO.out]
    exact ⟨HB6, .inr ⟨HE0.out, rfl, q, HQR.out, HL6, HR6⟩⟩
  clear HR6 HB6 HL6
  go_wp2
  exact HF.out
end

section
open Go.RowKit
set_option maxRecDepth 100000

/-! desk: acts. -/
structure Ac where
  k : Int
  o : Int
  up : Int
  la : Int
  m : List Ob
  us : List Up
  f : Bool
abbrev Ac.val (x : Ac) (am : Option Addr) (cm : Nat) (au : Option Addr) (cu : Nat) : Value := .agg #[.int .i64 x.k, .int .i64 x.o, .int .i64 x.up, .int .i64 x.la, .slice am x.m.length cm, .slice au x.us.length cu, .bool x.f]
abbrev Ac.blk (x : Ac) (am : Option Addr) (cm : Nat) (au : Option Addr) (cu : Nat) : Obj := .cells #[.int .i64 x.k, .int .i64 x.o, .int .i64 x.up, .int .i64 x.la, .slice am x.m.length cm, .slice au x.us.length cu, .bool x.f] 81
def pushesB (x : Ac) : Bool := x.up != 0 || x.la != 0 || decide (0 < x.m.length) || decide (0 < x.us.length) || x.f
/-- what is wrong with an act by itself. -/
def actE (x : Ac) : Int := if x.k = 1 then (if x.o = 0 then 0 else 1) else if x.k = 2 ∨ x.k = 3 then (if pushesB x = true then 1 else if x.o < 0 ∨ 3 ≤ x.o then 3 else 0) else 7

set_option maxHeartbeats 2000000 in
theorem pushes_raw (k o up la : Int) (am : Option Addr) (n cm : Nat) (au : Option Addr) (n2 cu : Nat) (f : Bool) (w : World) :
    Calls Tryz.prog 152 #[.agg #[.int .i64 k, .int .i64 o, .int .i64 up, .int .i64 la, .slice am n cm, .slice au n2 cu, .bool f]] w fun e w' => e = .returned (.bool (up != 0 || la != 0 || decide (0 < n) || decide (0 < n2) || f)) ∧ Below w.heap.size w w' := by
  have hB := below_alloc2 w (.cells #[.int .i64 k, .int .i64 o, .int .i64 up, .int .i64 la, .slice am n cm, .slice au n2 cu, .bool f] 81) (.cells #[.slice am n cm, .slice au n2 cu, .bool f] 28)
  go_enter Tryz.func152, Tryz.ntmps152
  by_cases hu : up = 0
  case neg =>
    have z : (up != 0) = true := by simpa using hu
    have HR : Hid ((up != 0 || la != 0 || decide (0 < n) || decide (0 < n2) || f) = true) := by unfold Hid; rw [z]; rfl
    clear hu
    go_wp2
    go_ret
    exact ⟨ret_bool HR.out.symm, hB⟩
  have z0 : (up != 0) = false := by simpa using hu
  by_cases hl : la = 0
  case neg =>
    have z : (la != 0) = true := by simpa using hl
    have HR : Hid ((up != 0 || la != 0 || decide (0 < n) || decide (0 < n2) || f) = true) := by unfold Hid; rw [z0, z]; rfl
    clear hu hl
    go_wp2
    go_ret
    exact ⟨ret_bool HR.out.symm, hB⟩
  have z1 : (la != 0) = false := by simpa using hl
  have HP : Hid ((up != 0 || la != 0 || decide (0 < n) || decide (0 < n2) || f) = (decide (0 < n) || decide (0 < n2) || f)) := by unfold Hid; rw [z0, z1]; rfl
  clear hu hl
  by_cases hm : 0 < n
  case pos =>
    have HR : Hid ((up != 0 || la != 0 || decide (0 < n) || decide (0 < n2) || f) = true) := by unfold Hid; rw [HP.out, decide_eq_true hm]; rfl
    go_wp2
    go_ret
    exact ⟨ret_bool HR.out.symm, hB⟩
  by_cases hs : 0 < n2
  case pos =>
    have HR : Hid ((up != 0 || la != 0 || decide (0 < n) || decide (0 < n2) || f) = true) := by unfold Hid; rw [HP.out, decide_eq_true hs, decide_eq_false hm]; rfl
    go_wp2
    go_ret
    exact ⟨ret_bool HR.out.symm, hB⟩
  have HR : Hid ((up != 0 || la != 0 || decide (0 < n) || decide (0 < n2) || f) = f) := by unfold Hid; rw [HP.out, decide_eq_false hs, decide_eq_false hm]; rfl
  go_wp2
  go_ret
  exact ⟨ret_bool HR.out.symm, hB⟩
theorem pushes_any (x : Ac) (am : Option Addr) (cm : Nat) (au : Option Addr) (cu : Nat) (w : World) :
    Calls Tryz.prog 152 #[x.val am cm au cu] w fun e w' => e = .returned (.bool (pushesB x)) ∧ Below w.heap.size w w' := pushes_raw x.k x.o x.up x.la am x.m.length cm au x.us.length cu x.f w

set_option maxHeartbeats 2000000 in
theorem checkAct_any (x : Ac) (am : Option Addr) (cm : Nat) (au : Option Addr) (cu : Nat) (w : World) :
    Calls Tryz.prog 92 #[x.val am cm au cu] w fun e w' => e = .returned (.int .i64 (actE x)) ∧ Below w.heap.size w w' := by
  have hB := below_alloc w (x.blk am cm au cu)
  have hk := heap_alloc_new w (x.blk am cm au cu)
  go_enter Tryz.func92, Tryz.ntmps92
  by_cases k1 : x.k = 1
  · have z1 : (x.k == 1) = true := by simpa using k1
    by_cases ho : x.o = 0
    · have HR : Hid (actE x = 0) := by unfold Hid actE; rw [if_pos k1, if_pos ho]
      have z2 : (x.o != 0) = false := by simpa using ho
      clear k1 ho
      go_wp2
      go_ret
      exact ⟨ret_int HR.out.symm, hB⟩
    · have HR : Hid (actE x = 1) := by unfold Hid actE; rw [if_pos k1, if_neg ho]
      have z2 : (x.o != 0) = true := by simpa using ho
      clear k1 ho
      go_wp2
      go_ret
      exact ⟨ret_int HR.out.symm, hB⟩
  have z1 : (x.k == 1) = false := by simpa using k1
  by_cases k23 : x.k = 2 ∨ x.k = 3
  case neg =>
    have HR : Hid (actE x = 7) := by unfold Hid actE; rw [if_neg k1, if_neg k23]
    have z2 : (x.k == 2) = false := by simp; omega
    have z3 : (x.k == 3) = false := by simp; omega
    clear k1 k23
    go_wp2
    go_ret
    exact ⟨ret_int HR.out.symm, hB⟩
  have HA : Hid (actE x = if pushesB x = true then 1 else if x.o < 0 ∨ 3 ≤ x.o then 3 else 0) := by unfold Hid actE; rw [if_neg k1, if_pos k23]
  obtain ⟨b2, hb2⟩ : ∃ b, b = (x.k == 2) := ⟨_, rfl⟩
  have z3 : b2 = false → (x.k == 3) = true := fun e => by
    rcases k23 with q | q
    · rw [hb2] at e; simp [q] at e
    · simpa using q
  have z2 : (x.k == 2) = b2 := hb2.symm
  clear k1 k23 hb2
  have hpu := pushes_any x am cm au cu (w.alloc (x.blk am cm au cu))
  have fin : ∀ b : Bool, b = b2 → True := fun _ _ => trivial
  clear fin
  cases b2 with
  | true =>
    clear z3
    go_wp2_with fail
    refine hpu.mono ?_
    clear hpu
    rintro e w1 ⟨rfl, hb1⟩
    have hk1 := (hb1.block _ (heap_lt hk)).trans hk
    have hB1 := hB.trans (hb1.mono hB.size)
    clear hb1 hB hk
    obtain ⟨y0, y1, y2, y3, y4, y5, y6⟩ := c7_of hk1
    clear hk1
    cases hp : pushesB x with
    | true =>
      have HR : Hid (actE x = 1) := by unfold Hid; rw [HA.out, if_pos hp]
      clear HA hp
      go_wp2
      go_ret
      exact ⟨ret_int HR.out.symm, hB1⟩
    | false =>
      have HA2 : Hid (actE x = if x.o < 0 ∨ 3 ≤ x.o then 3 else 0) := by unfold Hid; rw [HA.out, if_neg (by rw [hp]; simp)]
      clear HA hp
      by_cases ho : x.o < 0 ∨ 3 ≤ x.o
      · have HR : Hid (actE x = 3) := by unfold Hid; rw [HA2.out, if_pos ho]
        clear HA2
        rcases ho with ho | ho
        · go_wp2
          go_ret
          exact ⟨ret_int HR.out.symm, hB1⟩
        · have h0 : ¬ x.o < 0 := by omega
          go_wp2
          go_ret
          exact ⟨ret_int HR.out.symm, hB1⟩
      · have HR : Hid (actE x = 0) := by unfold Hid; rw [HA2.out, if_neg ho]
        have h0 : ¬ x.o < 0 := by omega
        have h1 : ¬ 3 ≤ x.o := by omega
        clear HA2 ho
        go_wp2
        go_ret
        exact ⟨ret_int HR.out.symm, hB1⟩
  | false =>
    have z4 := z3 rfl
    clear z3
    go_wp2_with fail
    refine hpu.mono ?_
    clear hpu
    rintro e w1 ⟨rfl, hb1⟩
    have hk1 := (hb1.block _ (heap_lt hk)).trans hk
    have hB1 := hB.trans (hb1.mono hB.size)
    clear hb1 hB hk
    obtain ⟨y0, y1, y2, y3, y4, y5, y6⟩ := c7_of hk1
    clear hk1
    cases hp : pushesB x with
    | true =>
      have HR : Hid (actE x = 1) := by unfold Hid; rw [HA.out, if_pos hp]
      clear HA hp
      go_wp2
      go_ret
      exact ⟨ret_int HR.out.symm, hB1⟩
    | false =>
      have HA2 : Hid (actE x = if x.o < 0 ∨ 3 ≤ x.o then 3 else 0) := by unfold Hid; rw [HA.out, if_neg (by rw [hp]; simp)]
      clear HA hp
      by_cases ho : x.o < 0 ∨ 3 ≤ x.o
      · have HR : Hid (actE x = 3) := by unfold Hid; rw [HA2.out, if_pos ho]
        clear HA2
        rcases ho with ho | ho
        · go_wp2
          go_ret
          exact ⟨ret_int HR.out.symm, hB1⟩
        · have h0 : ¬ x.o < 0 := by omega
          go_wp2
          go_ret
          exact ⟨ret_int HR.out.symm, hB1⟩
      · have HR : Hid (actE x = 0) := by unfold Hid; rw [HA2.out, if_neg ho]
        have h0 : ¬ x.o < 0 := by omega
        have h1 : ¬ 3 ≤ x.o := by omega
        clear HA2 ho
        go_wp2
        go_ret
        exact ⟨ret_int HR.out.symm, hB1⟩
end
end Go.Proofs.YtehmlpkapjdhkaaGreatDoor
