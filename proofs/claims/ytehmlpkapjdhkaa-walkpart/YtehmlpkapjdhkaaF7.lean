import Derived.Test.YtehmlpkapjdhkaaF6
namespace Go.Proofs.Ytehmlpkapjdhkaa
open Go.RowKit Go.Shelf
attribute [local go_sem] Oper.semAt_some


set_option maxRecDepth 100000 in
set_option maxHeartbeats 4000000 in
theorem follow_parents (a : Option Addr) (c : Nat) (l : List Ob) (a2 : Option Addr) (c2 : Nat) (ids : List Int) (w : World) (hll : l.length ≤ 9223372036854775807) (h2 : Holds w a2 ids) (hil : ids.length ≤ 9223372036854775807)
    (hids : ∀ i ∈ ids, 0 ≤ i ∧ i ≤ 99) (hl : ∀ x ∈ l, 0 ≤ x.id ∧ x.id ≤ 99) (good : Ob → Prop) (on : Ob → List Int) (hon : ∀ x ∈ l, good x → ∀ i ∈ on x, 0 ≤ i ∧ i ≤ 99) (hg0 : ∀ x ∈ l, x.id ∈ ids → good x) (hg1 : ∀ x ∈ l, good x → ∀ y ∈ l, y.id ∈ on x → good y)
    (rs : List Pl) (hrs : rs.map Pl.x = l) (hrows : rs.length = 0 ∨ ∃ b off, a = some ⟨b, off, none⟩ ∧ b < w.heap.size ∧ ∀ k (hk : k < rs.length) j, j < 4 → w.cell? ⟨b, off + k * 4 + j, none⟩ = (rs[k].cells)[j]?)
    (hfun : ∀ r ∈ rs, good r.x → ∀ W, Below w.heap.size w W → Calls Try.prog 32 #[r.x.val r.sa r.sc] W fun e W' => ∃ a' c', e = .returned (.slice a' (on r.x).length c') ∧ Holds w a' (on r.x) ∧ (on r.x).length ≤ 9223372036854775807 ∧ Below W.heap.size W W') :
    Calls Try.prog 31 #[.slice a l.length c, .func (.func 32) #[] #[], .slice a2 ids.length c2] w fun e w' => e = .returned (.agg (marksL (l.foldr (fun x S => stepF on S x) ids))) ∧ Below w.heap.size w w' := by
  refine (callsIn_wide (n := 6)).1 ?_
  refine callsIn_of_wp_marks Try.func31 rfl trivial ?_ rfl
  simp only [Try.ntmps31, List.size_toArray, List.length_cons, List.length_nil, Nat.reduceAdd, Nat.reduceSub, Array.replicate_succ, Array.replicate_zero, List.push_toArray, List.append_toArray, List.nil_append, List.cons_append]
  have FW0 := FW.start w (.func (.func 32) #[] #[])
  have hsz0 : (((w.alloc (.cells #[.func (.func 32) #[] #[]] 59)).alloc (.cells zM57 57)).alloc (.cells zM57 57)).heap.size = w.heap.size + 3 := by simp
  gi_wp2
  gi_loopw [16] (fun i wr => ∃ k : Nat, i = .int .i64 k ∧ k ≤ ids.length ∧ FW w (.func (.func 32) #[] #[]) (ids.take k) wr ∧ wr.heap.size = w.heap.size + 3) (fun i _ => ids.length - (intOf i).toNat)
  case atStart => exact ⟨0, rfl, Nat.zero_le _, by rw [List.take_zero]; exact FW0, hsz0⟩
  case round =>
    clear FW0 hsz0
    obtain ⟨k, rfl, hk, hF, hsz⟩ := hrel
    by_cases hlt : k < ids.length
    · obtain ⟨b, off, rfl, hb, hc⟩ := h2 k hlt
      have x0 := (hF.bl.cell (p := ⟨b, off + k, none⟩) hb).trans (hc k hlt)
      obtain ⟨i, hi, hi99⟩ : ∃ i : Nat, ids[k] = (i : Int) ∧ i < 100 := by
        have := hids _ (List.getElem_mem hlt)
        exact ⟨ids[k].toNat, by omega, by omega⟩
      rw [show ids.getD k 0 = (i : Int) by rw [← hi]; simp [hlt]] at x0
      have HM : Hid (FW w (.func (.func 32) #[] #[]) (ids.take (k + 1)) (wr.setCell ⟨w.heap.size + 1 + 1, i, none⟩ (.bool true))) := hF.mark i hi99 (fun j => by
        rw [List.take_succ_eq_append_getElem hlt, hi]
        simp only [List.mem_append, List.mem_singleton]
        exact Or.comm)
      have y0 := hF.cell i hi99
      have y1 := hF.thaw i
      have hi99' : (i : Int) < 100 := by omega
      clear hc hi hF
      gi_wp2
      go_roundw
      case rel => exact ⟨k + 1, by go_num, by omega, HM.out, by rw [← hsz]; exact World.size_setCell _ _ _⟩
      case measure => simp [intOf]; omega
    · obtain rfl : k = ids.length := by omega
      rw [List.take_length] at hF
      gi_wp2
      refine ⟨trivial, (back_in 5 _ _ _ _).mono ?_⟩
      rintro e w' ⟨rfl, rfl⟩
      have hF1 := hF.below (below_alloc wr (.cells #[.slice a l.length c] 22))
      have hsz1 : (wr.alloc (.cells #[.slice a l.length c] 22)).heap.size = w.heap.size + 4 := by rw [World.size_alloc, hsz]
      have hbs := heap_alloc_new wr (.cells #[.slice a l.length c] 22)
      rw [hsz] at hbs
      rw [hsz]
      clear hF hsz
      generalize wr.alloc (.cells #[.slice a l.length c] 22) = W0 at *
      gi_wp2
      have hrl : rs.length = l.length := by rw [← hrs, List.length_map]
      have hcell : W0.cell? ⟨w.heap.size + 3, 0, none⟩ = some (.slice a rs.length c) := by rw [cell_of_row W0 _ 0 _ _ _ hbs, hrl]; rfl
      have hrows' : rs.length = 0 ∨ ∃ b off, a = some ⟨b, off, none⟩ ∧ b < w.heap.size ∧ ∀ k (hk : k < rs.length) j, j < 4 → W0.cell? ⟨b, off + k * 4 + j, none⟩ = (rs[k].cells)[j]? := by
        rcases hrows with e | ⟨b, off, e, hb, hc⟩
        · exact .inl e
        · exact .inr ⟨b, off, e, hb, fun k hk j hj => (hF1.bl.cell (p := ⟨b, off + k * 4 + j, none⟩) hb).trans (hc k hk j hj)⟩
      refine wpIn_rangeFunc_ownH (F := Fence.wide) rfl (by omega) (gf := 52) (lb := #[.pointer (some ⟨w.heap.size + 3, 0, none⟩)]) rfl trivial (enters_of Try.func52 (by kernel_rfl) rfl)
        (back_stops 5 (by omega) (w.heap.size + 3) w.heap.size a c rs (· ∈ rs) (fun k hk => List.getElem_mem hk) (by omega) W0 (by omega) (by omega) hcell hrows') KeptB.trans (KeptB.book (by omega) (by omega)) (Below.refl _ _) (fun _ => rfl)
        (fun pre W => FW w (.func (.func 32) #[] #[]) (foldC on ids pre) W ∧ w.heap.size + 4 ≤ W.heap.size ∧ ∀ x ∈ l, x.id ∈ foldC on ids pre → good x)
        (fun _ _ _ => False)
        (fun pre W W' row hs hg hr => ⟨hs.1.own hg (by omega) hr, Nat.le_trans hs.2.1 hg.size, hs.2.2⟩)
        (fun _ _ _ _ _ hs _ _ => hs)
        ⟨hF1, by omega, fun x hx hi => hg0 x hx hi⟩
        (fun x a' W => ∃ Bx, w.heap.size + 3 < Bx ∧ W.heap[Bx]? = some (.cells #[.int .i64 x.1.2.x.id, .int .i64 x.1.2.x.kind, .slice x.1.2.sa x.1.2.x.links.length x.1.2.sc, .string x.1.2.x.text] 28) ∧ a' = { tmps := #[.slice a l.length c, .func (.func 32) #[] #[], .slice a2 ids.length c2, undef,
          .pointer (some ⟨w.heap.size, 0, none⟩), undef, .pointer (some ⟨w.heap.size + 1, 0, none⟩), .pointer (some ⟨w.heap.size + 1 + 1, 0, none⟩), undef, u9, undef, .pointer (some ⟨Bx, 0, none⟩), undef, undef,
          .slice a2 ids.length c2, .int .i64 ids.length, .int .i64 ids.length, .bool false, u18, u19, u20, u21, u22, .slice a l.length c,
          .func (.func 52) #[] #[.pointer (some ⟨w.heap.size + 3, 0, none⟩)], .int .i64 (x.1.1 : Int), x.1.2.x.val x.1.2.sa x.1.2.sc, undef, undef, undef, undef, undef, undef, undef, undef, undef, undef, undef, undef, undef, undef, undef, undef, undef], defers := [] })
        (fun x a' s W W' row hs hg hr => by
          obtain ⟨Bx, h1, h2, h3⟩ := hs
          refine ⟨Bx, h1, (hg.block Bx (heap_lt h2) (fun e => ?_)).trans h2, h3⟩
          obtain ⟨_, o, ho, hc⟩ := hr Bx e.symm
          rw [h2] at ho
          cases ho
          cases hc) ?assign ?body ?done ?stop
      case assign =>
        rintro lp pre x W K hi hK
        simp only [Come.vals]
        gi_wp2
        have hA := below_alloc W (.cells #[.int .i64 x.1.2.x.id, .int .i64 x.1.2.x.kind, .slice x.1.2.sa x.1.2.x.links.length x.1.2.sc, .string x.1.2.x.text] 28)
        exact hK _ _ ((KeepsOthers.alloc _ _).from _) ⟨hA.mono (by omega), hA.block _ (by omega)⟩ ⟨hi.1.below hA, Nat.le_trans hi.2.1 hA.size, hi.2.2⟩ ⟨W.heap.size, by omega, heap_alloc_new W _, rfl⟩
      case body =>
        rintro lp pre ⟨⟨ix, r⟩, hr⟩ a' W hlp ⟨rr, hrr⟩ ⟨hFI, hWs, hgd⟩ ⟨Bx, hBx, bX, rfl⟩ hlt2
        simp only at hr bX ⊢
        have hrx : r.x ∈ l := by rw [← hrs]; exact List.mem_map.2 ⟨r, hr, rfl⟩
        obtain ⟨i, hi, hi99⟩ : ∃ i : Nat, r.x.id = (i : Int) ∧ i < 100 := by
          have := hl _ hrx
          exact ⟨r.x.id.toNat, by omega, by omega⟩
        have HI : Hid (r.x.id = (i : Int)) := hi
        have hi99' : (i : Int) < 100 := by omega
        have x0 : W.cell? ⟨Bx, 0, none⟩ = some (.int .i64 (i : Int)) := by rw [cell_of_row W _ _ _ _ _ bX, hi]; rfl
        have x1 : W.cell? ⟨Bx, 1, none⟩ = some (.int .i64 r.x.kind) := by rw [cell_of_row W _ _ _ _ _ bX]; rfl
        have x2 : W.cell? ⟨Bx, 2, none⟩ = some (.slice r.sa r.x.links.length r.sc) := by rw [cell_of_row W _ _ _ _ _ bX]; rfl
        have x3 : W.cell? ⟨Bx, 3, none⟩ = some (.string r.x.text) := by rw [cell_of_row W _ _ _ _ _ bX]; rfl
        have y0 := hFI.cell i hi99
        have z0 : W.cell? ⟨w.heap.size, 0, none⟩ = some (.func (.func 32) #[] #[]) := by rw [cell_of_row W _ _ _ _ _ hFI.bx]; rfl
        have HC : Hid (foldC on ids (pre ++ [(⟨(ix, r), hr⟩ : Come (· ∈ rs))]) = stepF on (foldC on ids pre) r.x) := foldC_snoc _ _ _ _
        obtain ⟨S, hS⟩ : ∃ S, S = foldC on ids pre := ⟨_, rfl⟩
        rw [← hS] at hFI hgd y0 HC
        clear hS bX hi
        by_cases hm : (i : Int) ∈ S
        · have hgx : good r.x := hgd r.x hrx (by rw [HI.out]; exact hm)
          have HS : Hid (stepF on S r.x = on r.x ++ S) := by unfold Hid stepF; rw [if_pos (by rw [HI.out]; exact hm)]
          rw [show decide ((i : Int) ∈ S) = true by simpa using hm] at y0
          clear hm
          have hfr := hfun r hr hgx W hFI.bl
          simp only [Ob.val, HI.out] at hfr
          have hLr := hon r.x hrx hgx
          have HGN : Hid (∀ y ∈ l, y.id ∈ on r.x ++ S → good y) := fun y hy hyS => (List.mem_append.1 hyS).elim (fun q => hg1 r.x hrx hgx y hy q) (fun q => hgd y hy q)
          obtain ⟨L, hLe⟩ : ∃ L, L = on r.x := ⟨_, rfl⟩
          rw [← hLe] at hfr hLr HS HGN
          clear hLe hgx hgd
          gi_wp2
          refine ⟨trivial, (CallsIn.inRound lp (callsIn_wide.2 hfr)).mono ?_⟩
          clear hfr
          rintro e W1 ⟨a3, c3, rfl, hH, hLl, hb1⟩
          have hF1' := hFI.below hb1
          have hK1 : KeepsOthers W W1 := ⟨hb1.size, fun k o hk _ => (hb1.block k (heap_lt hk)).trans hk⟩
          have hKB : KeptB w.heap.size (w.heap.size + 3) W W1 := ⟨hb1.mono (by omega), hb1.block _ (by omega)⟩
          have hWs1 := Nat.le_trans hWs hb1.size
          clear hb1 hFI x0 x1 x2 x3 y0 z0 hWs
          gi_wp2
          gi_loopw [36] (fun i wr => ∃ k : Nat, i = .int .i64 k ∧ k ≤ L.length ∧ FW w (.func (.func 32) #[] #[]) (L.take k ++ S) wr ∧ KeptB w.heap.size (w.heap.size + 3) W wr ∧ KeepsOthers W wr ∧ w.heap.size + 4 ≤ wr.heap.size) (fun i _ => L.length - (intOf i).toNat)
          case atStart => exact ⟨0, rfl, Nat.zero_le _, by rw [List.take_zero]; exact hF1', hKB, hK1, hWs1⟩
          case round =>
            clear hF1' hKB hK1 hWs1
            obtain ⟨k, rfl, hk, hF, hKB, hKO, hWs⟩ := hrel
            by_cases hlt : k < L.length
            · obtain ⟨b, off, rfl, hb, hc⟩ := hH k hlt
              have x0 := (hF.bl.cell (p := ⟨b, off + k, none⟩) hb).trans (hc k hlt)
              obtain ⟨y, hy, hy99⟩ : ∃ y : Nat, L[k] = (y : Int) ∧ y < 100 := by
                have := hLr _ (List.getElem_mem hlt)
                exact ⟨L[k].toNat, by omega, by omega⟩
              rw [show L.getD k 0 = (y : Int) by rw [← hy]; simp [hlt]] at x0
              have HM : Hid (FW w (.func (.func 32) #[] #[]) (L.take (k + 1) ++ S) (wr.setCell ⟨w.heap.size + 1 + 1, y, none⟩ (.bool true))) := hF.mark y hy99 (fun j => by
                rw [List.take_succ_eq_append_getElem hlt, hy]
                simp only [List.mem_append, List.mem_singleton, or_assoc]
                exact or_left_comm)
              have y0 := hF.cell y hy99
              have y1 := hF.thaw y
              have hy99' : (y : Int) < 100 := by omega
              have HB : Hid (KeptB w.heap.size (w.heap.size + 3) W (wr.setCell ⟨w.heap.size + 1 + 1, y, none⟩ (.bool true))) :=
                ⟨hKB.1.setCell (p := ⟨w.heap.size + 1 + 1, y, none⟩) (by show w.heap.size ≤ w.heap.size + 1 + 1; omega) _, (heap_setCell_other wr _ _ _ (by show w.heap.size + 3 ≠ w.heap.size + 1 + 1; omega)).trans hKB.2⟩
              clear hc hy hF hKB
              gi_wp2
              go_roundw
              case rel => exact ⟨k + 1, by go_num, by omega, HM.out, HB.out, hKO.trans (KeepsOthers.setCell _ _ _), by rw [World.size_setCell]; exact hWs⟩
              case measure => simp [intOf]; omega
            · obtain rfl : k = L.length := by omega
              rw [List.take_length] at hF
              gi_wp2
              refine ⟨hKO.from _, hKB, ?_⟩
              show FW w _ (foldC on ids (pre ++ [(⟨(ix, r), hr⟩ : Come (· ∈ rs))])) _ ∧ _ ∧ _
              rw [HC.out, HS.out]
              exact ⟨hF, hWs, HGN.out⟩
        · have HS : Hid (stepF on S r.x = S) := by unfold Hid stepF; rw [if_neg (by rw [HI.out]; exact hm)]
          rw [show decide ((i : Int) ∈ S) = false by simpa using hm] at y0
          clear hm
          gi_wp2
          refine ⟨KeepsFrom.refl _ _, ⟨Below.refl _ _, rfl⟩, ?_⟩
          show FW w _ (foldC on ids (pre ++ [(⟨(ix, r), hr⟩ : Come (· ∈ rs))])) _ ∧ _ ∧ _
          rw [HC.out, HS.out]
          exact ⟨hFI, hWs, hgd⟩
      case done =>
        rintro D ys W hD hS ⟨hFI, hWs, -⟩ hK
        clear hrows hrows' hcell hF1 hbs hfun
        have hfold : foldC on ids ys = l.foldr (fun x S => stepF on S x) ids := by
          have e : foldC on ids ys = (ys.map (fun r => r.1.2)).foldl (fun S r => stepF on S r.x) ids := by unfold foldC; rw [List.foldl_map]
          rw [e, hS, List.foldl_reverse, ← hrs, List.foldr_map]
        have HFO : Hid (foldC on ids ys = l.foldr (fun x S => stepF on S x) ids) := hfold
        obtain ⟨S, hSe⟩ : ∃ S, S = foldC on ids ys := ⟨_, rfl⟩
        rw [← hSe] at hFI HFO
        clear hSe hS hfold
        gi_wp2
        refine wide_load_row (.tmp 7) rfl (w.heap.size + 1 + 1) rfl S hFI.mm ?_
        simp only [Act.put, List.setIfInBounds_toArray, List.set_cons_zero, List.set_cons_succ]
        have hsc : (storeCells ⟨w.heap.size + 1, 0, none⟩ (marksL S).toList).run Try.prog W = .ok () (W.setRow (w.heap.size + 1) (marksL S)) := run_store_marks W _ S [] hFI.rz
        have hms := marksL_size S
        have hr1 := setRow_heap W (w.heap.size + 1) _ (marksL S) _ _ hFI.rz
        have hK1 := (setRow_other W (w.heap.size + 1) D (marksL S) (by omega)).trans hK
        have hb1 : Below w.heap.size w (W.setRow (w.heap.size + 1) (marksL S)) := ⟨hFI.bl.os, hFI.bl.tape, hFI.bl.output, by rw [size_setRow]; exact hFI.bl.size, fun k hk => (setRow_other W _ k _ (by omega)).trans (hFI.bl.block k hk)⟩
        gi_wp2
        refine ⟨by simp, .inl ⟨_, _, rfl, run_takeDeferred hK1, ?_⟩⟩
        have hD2 : w.heap.size + 4 ≤ D := by omega
        have hDl : D < (W.setRow (w.heap.size + 1) (marksL S)).heap.size := heap_lt hK1
        have hgp := grownBy_putObj' (W.setRow (w.heap.size + 1) (marksL S)) D (.deferred none)
        refine ⟨_, results_marks _ (w.heap.size + 1) _ rfl S ((hgp.block _ (by omega) (fun e => by cases e; omega)).trans hr1), ?_⟩
        refine ⟨by rw [HFO.out], hb1.grown hgp hb1.size (fun k e => by cases e; omega)⟩
      case stop =>
        rintro D c pre W _ _ h _
        exact h.elim

end Go.Proofs.Ytehmlpkapjdhkaa
