import Derived.Test.YtgkmoehbjdmefaaGreatDoorMG
import Derived.Maps.AppendAt
namespace Go.Proofs.YtgkmoehbjdmefaaGreatDoor
section
open Go.RowKit
set_option maxRecDepth 100000

theorem two_blocks (w : World) (A B : Obj) : ((w.alloc A).alloc B).heap[w.heap.size]? = some A ∧ ((w.alloc A).alloc B).heap[w.heap.size + 1]? = some B := by
  have hA2 := below_alloc (w.alloc A) B
  refine ⟨(hA2.block _ (by simp)).trans (heap_alloc_new w _), ?_⟩
  have := heap_alloc_new (w.alloc A) B
  rwa [show (w.alloc A).heap.size = w.heap.size + 1 by simp] at this
theorem itoa_digit : ∀ n : Nat, n ≤ 7 → (itoaS (n : Int)).size = 1 := by decide +kernel
theorem vote_no {s : List Ob} {l : List Rf} {g : Int} {m : List Ob} {us : List Up} {f : Bool} (hv : voteE g m us = 0) (h : tryE s l m us f ≠ 0) : (voteS s l g m us f).size = 4 := by
  unfold voteS voteT
  rw [if_neg (fun e => e hv), if_pos h, size_app]
  have hr := r7_try s l m us f
  have := itoa_digit (tryE s l m us f).toNat (by have := hr.1; have := hr.2; omega)
  rw [Int.toNat_of_nonneg hr.1] at this
  rw [this]
  rfl
theorem vote_yes {s : List Ob} {l : List Rf} {g : Int} {m : List Ob} {us : List Up} {f : Bool} (hv : voteE g m us = 0) (h : tryE s l m us f = 0) : voteS s l g m us f = sYesB ++ (itoaS g ++ sBl ++ textS us) := by
  unfold voteS voteT
  rw [if_neg (fun e => e hv), if_neg (fun e => e h)]
  apply ByteArray.ext
  simp [ByteArray.data_append]
theorem yes_size (x : ByteArray) (g : Int) (t : ByteArray) (h : x = sYesB ++ (itoaS g ++ sBl ++ t)) : 5 ≤ x.size := by
  rw [h, size_app, size_app, size_app]
  have : sYesB.size = 4 := rfl
  have : sBl.size = 1 := rfl
  omega
theorem yes_pre (x y : ByteArray) (h : x = sYesB ++ y) : ((x.extract 0 4).toList == [121, 101, 115, 32]) = true := by
  rw [show ([121, 101, 115, 32] : List UInt8) = sYesB.toList by decide +kernel]
  refine name_eq.2 ?_
  rw [h]
  apply ByteArray.ext
  rw [ByteArray.data_extract, ByteArray.data_append, Array.extract_append]
  simp

/-- a push with a copy of the updates. -/
structure Qu (w4 wx : World) (am : Option Addr) (nm cm : Nat) (f : Bool) (us : List Up) (q gq cap : Nat) (cur : Array Value) : Prop where
  hb : Below w4.heap.size w4 wx
  hq : wx.heap[q]? = some (.cells #[.slice am nm cm, .slice (some ⟨gq, 0, none⟩) us.length cap, .bool f] 26)
  hu : wx.heap[gq]? = some (.cells cur 45)
  ht : cur.toList.take (us.length * 3) = rowU us
  hs : us.length * 3 ≤ cur.size
  hc : us.length ≤ cap
  q1 : w4.heap.size ≤ q
  g1 : w4.heap.size ≤ gq
  ne : gq ≠ q

theorem app_ups (W : World) (ty : TypeId) (z b off c : Nat) (us : List Up) (hz : W.heap[z]? = some (.cells #[] 45)) (hc : ∀ k (hk : k < us.length), UpAt W b (off + k * 3) us[k]) (h4 : us.length ≤ 4) (h0 : 0 < us.length) :
    ∃ g cap cur W2, (Builtin.append_ #[24, 24] ty #[.slice (some ⟨z, 0, none⟩) 0 0, .slice (some ⟨b, off, none⟩) us.length c]).run Tryz.prog W = .ok (.slice (some ⟨g, 0, none⟩) us.length cap) W2 ∧ us.length ≤ cap ∧ (g = z ∨ g = W.heap.size) ∧
      W2.heap[g]? = some (.cells cur 45) ∧ cur.toList.take (us.length * 3) = rowU us ∧ us.length * 3 ≤ cur.size ∧ W.grownBy W2 (some z) := by
  have o0 : W.ownsRow 0 45 3 (.slice (some ⟨z, 0, none⟩) 0 0) 0 [] := ⟨rfl, .inr ⟨z, 0, #[], rfl, Nat.zero_le _, hz, Nat.le_refl _, by unfold maxLen; omega, rfl, rfl⟩⟩
  obtain ⟨i0, hi0, hz0, hzs, hzb⟩ := info_parts Tryz.info45
  obtain ⟨v', w', hr, p1, p2, _, p4⟩ := run_append_own_at (P := Tryz.prog) W 0 24 ty 45 i0 _ 3 32 Tryz.underlying24 hi0 hz0 hzs hzb rfl (by omega) _ 0 [] o0 ⟨b, off, none⟩ us.length c (rowU us) (rowU_length us) (holdU_row' (fun i _ => ⟨b, off, rfl, hc⟩)) (rowU_one us) (by unfold maxLen; omega) (by omega) (Nat.zero_le _)
  rcases p1.2 with ⟨_, e⟩ | ⟨g, cap, cur, rfl, h1, h2, h3, _, h5, h6⟩
  · omega
  · simp only [Nat.zero_add, List.nil_append] at h3 h5 h6 hr
    refine ⟨g, cap, cur, w', hr, h3, ?_, h2, h6, by rw [h5]; omega, p2⟩
    rcases p4 with e | e
    · exact .inl (by simpa [Value.ownBlock] using e)
    · exact .inr (by simpa [Value.ownBlock] using e)

theorem step_append_t {t : TypeId} {ops : Array Oper} {o : Oper} {a : Act} {w : World} {K : Act → World → Prop} {Q : Exit → Act → World → Prop} {E : Prop} (hgd : o.guard = none) (d s : Operand)
    (ho : o.op = .call { callee := .builtin .append, args := #[d, s], argTypes := #[t, t] }) (v u : Value) (hd : a.eval d = v) (hs : a.eval s = u) {v' : Value} {w' : World}
    (hr : (Builtin.append_ #[t, t] o.type #[v, u]).run Tryz.prog w = .ok v' w') (h : K (a.put o.dst v') w') : if Region.wanted o (yielded ops a.tmps) = true then Oper.wp Tryz.prog o a w K Q else E := by
  have hw : Region.wanted o (yielded ops a.tmps) = true := by simp [Region.wanted, hgd]
  rw [if_pos hw]
  unfold Oper.wp execOp
  simp only [ho, resolve, invoke, builtin, Sem.run_bind, Sem.run_pure, Result.andThen_ok, List.map_toArray, List.map_cons, List.map_nil, hd, hs, hr]
  exact h

theorem set3_block (w : World) (q : Nat) (x0 x1 x2 : Value) {a b c : Value} (h : w.heap[q]? = some (.cells #[a, b, c] 26)) :
    (((w.setCell ⟨q, 0, none⟩ x0).setCell ⟨q, 1, none⟩ x1).setCell ⟨q, 2, none⟩ x2).heap[q]? = some (.cells #[x0, x1, x2] 26) ∧ Below q w (((w.setCell ⟨q, 0, none⟩ x0).setCell ⟨q, 1, none⟩ x1).setCell ⟨q, 2, none⟩ x2) ∧
      ∀ k, k ≠ q → (((w.setCell ⟨q, 0, none⟩ x0).setCell ⟨q, 1, none⟩ x1).setCell ⟨q, 2, none⟩ x2).heap[k]? = w.heap[k]? := by
  have h1 := heap_setCell_same w q 0 #[a, b, c] 26 x0 h
  have h2 := heap_setCell_same _ q 1 _ 26 x1 h1
  have h3 := heap_setCell_same _ q 2 _ 26 x2 h2
  refine ⟨by simpa using h3, ((Below.refl q w).setCell (Nat.le_refl _) _ |>.setCell (Nat.le_refl _) _).setCell (Nat.le_refl _) _, fun k hk => ?_⟩
  rw [heap_setCell_other _ ⟨q, 2, none⟩ k _ hk, heap_setCell_other _ ⟨q, 1, none⟩ k _ hk, heap_setCell_other _ ⟨q, 0, none⟩ k _ hk]
theorem far_keep {q ab o : Nat} {w w' : World} {v : Value} (h : ∀ k, k ≠ q → w'.heap[k]? = w.heap[k]?) (hn : ab ≠ q) (e : w.cell? ⟨ab, o, none⟩ = some v) : w'.cell? ⟨ab, o, none⟩ = some v := (World.cell?_of_block (a := ⟨ab, o, none⟩) (h ab hn)).trans e
theorem cell_keep {B ab o : Nat} {w w' : World} {v : Value} (hb : Below B w w') (h : ab < B) (e : w.cell? ⟨ab, o, none⟩ = some v) : w'.cell? ⟨ab, o, none⟩ = some v := (hb.cell (p := ⟨ab, o, none⟩) h).trans e

theorem holdsU_cur {w : World} {g : Nat} {cur : Array Value} {us : List Up} (hk : w.heap[g]? = some (.cells cur 45)) (ht : cur.toList.take (us.length * 3) = rowU us) : HoldsU w (some ⟨g, 0, none⟩) us := by
  intro i _
  refine ⟨g, 0, rfl, heap_lt hk, fun k hk' => ?_⟩
  have hc : ∀ j, j < 3 → w.cell? ⟨g, 0 + k * 3 + j, none⟩ = (us[k].cells)[j]? := fun j hj => by
    rw [Nat.zero_add, cell_of_row w g _ _ _ _ hk, ← rowU_get us k j hk' hj, ← ht, List.getElem?_take, if_pos (by omega)]
    simp
  exact ⟨by simpa [Up.cells] using hc 0 (by omega), by simpa [Up.cells] using hc 1 (by omega), by simpa [Up.cells] using hc 2 (by omega)⟩
theorem cur_of {cur : Array Value} {us : List Up} (ht : cur.toList.take (us.length * 3) = rowU us) : ∃ r : List Value, cur = (rowU us ++ r).toArray :=
  ⟨cur.toList.drop (us.length * 3), by rw [← ht, List.take_append_drop]⟩
theorem swap_same {us : List Up} (h : us.length = 1) : swapE us = us := by
  match us, h with
  | [_], _ => rfl

theorem swap_row2 (a b : Up) (r : List Value) : ((((((((rowU [a, b] ++ r).toArray).setIfInBounds 0 (.string b.name)).setIfInBounds 1 (.int .i64 b.old)).setIfInBounds 2 (.int .i64 b.new)).setIfInBounds 3 (.string a.name)).setIfInBounds 4 (.int .i64 a.old)).setIfInBounds 5 (.int .i64 a.new)).toList.take (List.length [b, a] * 3) = rowU [b, a] := by rfl
theorem swap_row3 (a b c : Up) (r : List Value) : ((((((((rowU [a, b, c] ++ r).toArray).setIfInBounds 0 (.string c.name)).setIfInBounds 1 (.int .i64 c.old)).setIfInBounds 2 (.int .i64 c.new)).setIfInBounds 6 (.string a.name)).setIfInBounds 7 (.int .i64 a.old)).setIfInBounds 8 (.int .i64 a.new)).toList.take (List.length [c, b, a] * 3) = rowU [c, b, a] := by rfl
theorem swap_row4 (a b c d : Up) (r : List Value) : ((((((((rowU [a, b, c, d] ++ r).toArray).setIfInBounds 0 (.string d.name)).setIfInBounds 1 (.int .i64 d.old)).setIfInBounds 2 (.int .i64 d.new)).setIfInBounds 9 (.string a.name)).setIfInBounds 10 (.int .i64 a.old)).setIfInBounds 11 (.int .i64 a.new)).toList.take (List.length [d, b, c, a] * 3) = rowU [d, b, c, a] := by rfl
theorem six_block (w : World) (gq o o1 o2 : Nat) (cur : Array Value) (x0 x1 x2 x3 x4 x5 : Value) (h : w.heap[gq]? = some (.cells cur 45)) :
    ((((((w.setCell ⟨gq, 0, none⟩ x0).setCell ⟨gq, 1, none⟩ x1).setCell ⟨gq, 2, none⟩ x2).setCell ⟨gq, o, none⟩ x3).setCell ⟨gq, o1, none⟩ x4).setCell ⟨gq, o2, none⟩ x5).heap[gq]? = some (.cells ((((((cur.setIfInBounds 0 x0).setIfInBounds 1 x1).setIfInBounds 2 x2).setIfInBounds o x3).setIfInBounds o1 x4).setIfInBounds o2 x5) 45) ∧
      Below gq w ((((((w.setCell ⟨gq, 0, none⟩ x0).setCell ⟨gq, 1, none⟩ x1).setCell ⟨gq, 2, none⟩ x2).setCell ⟨gq, o, none⟩ x3).setCell ⟨gq, o1, none⟩ x4).setCell ⟨gq, o2, none⟩ x5) ∧
      ∀ k, k ≠ gq → ((((((w.setCell ⟨gq, 0, none⟩ x0).setCell ⟨gq, 1, none⟩ x1).setCell ⟨gq, 2, none⟩ x2).setCell ⟨gq, o, none⟩ x3).setCell ⟨gq, o1, none⟩ x4).setCell ⟨gq, o2, none⟩ x5).heap[k]? = w.heap[k]? := by
  have h1 := heap_setCell_same w gq 0 _ 45 x0 h
  have h2 := heap_setCell_same _ gq 1 _ 45 x1 h1
  have h3 := heap_setCell_same _ gq 2 _ 45 x2 h2
  have h4 := heap_setCell_same _ gq o _ 45 x3 h3
  have h5 := heap_setCell_same _ gq o1 _ 45 x4 h4
  have h6 := heap_setCell_same _ gq o2 _ 45 x5 h5
  refine ⟨h6, (((((Below.refl gq w).setCell (Nat.le_refl _) _ |>.setCell (Nat.le_refl _) _).setCell (Nat.le_refl _) _).setCell (Nat.le_refl _) _).setCell (Nat.le_refl _) _).setCell (Nat.le_refl _) _, fun k hk => ?_⟩
  rw [heap_setCell_other _ ⟨gq, o2, none⟩ k _ hk, heap_setCell_other _ ⟨gq, o1, none⟩ k _ hk, heap_setCell_other _ ⟨gq, o, none⟩ k _ hk, heap_setCell_other _ ⟨gq, 2, none⟩ k _ hk, heap_setCell_other _ ⟨gq, 1, none⟩ k _ hk, heap_setCell_other _ ⟨gq, 0, none⟩ k _ hk]
theorem hcell3 {w : World} {g : Nat} {cur : Array Value} {us : List Up} {r : List Value} (hk : w.heap[g]? = some (.cells cur 45)) (hc : cur = (rowU us ++ r).toArray) (k : Nat) (hk' : k < us.length) : UpAt w g (0 + k * 3) us[k] := by
  have ht : cur.toList.take (us.length * 3) = rowU us := by rw [hc]; simp [rowU_length]
  obtain ⟨b, off, e, _, h⟩ := holdsU_cur hk ht 0 (by omega)
  cases e
  exact h k hk'

set_option maxHeartbeats 16000000 in
theorem voteSame_bad (aS : Option Addr) (cs : Nat) (s : List Ob) (al : Option Addr) (cl : Nat) (l : List Rf) (g ph : Int) (a1 : Option Addr) (n1 c1 : Nat) (a2 : Option Addr) (n2 c2 : Nat) (f0 : Bool) (am : Option Addr) (cm : Nat) (m : List Ob) (au : Option Addr) (cu : Nat) (us : List Up) (f turned : Bool) (w : World) (hg : Glob w) (ht : Tab w)
    (hs : HoldsS w aS s) (hsl : s.length ≤ 9223372036854775807) (hl : HoldsR w al l) (hll : l.length ≤ 9223372036854775807) (hm : HoldsS w am m) (hml : m.length ≤ 9223372036854775807) (hu : HoldsU w au us) (hul : us.length ≤ 9223372036854775807) (hv : voteE g m us ≠ 0) :
    Calls Tryz.prog 6 #[replV aS s.length cs al l.length cl g ph a1 n1 c1 a2 n2 c2 f0, pushV am m.length cm au us.length cu f, .bool turned] w fun e w' => e = .returned (.bool true) ∧ Below w.heap.size w w' := by
  have hB := below_alloc2 w (.cells #[.slice aS s.length cs, .slice al l.length cl, .int .i64 g, .int .i64 ph, .slice a1 n1 c1, .slice a2 n2 c2, .bool f0] 28) (.cells #[.slice am m.length cm, .slice au us.length cu, .bool f] 26)
  obtain ⟨hk1, hk2⟩ := two_blocks w (.cells #[.slice aS s.length cs, .slice al l.length cl, .int .i64 g, .int .i64 ph, .slice a1 n1 c1, .slice a2 n2 c2, .bool f0] 28) (.cells #[.slice am m.length cm, .slice au us.length cu, .bool f] 26)
  obtain ⟨y0, y1, y2⟩ := c3_of hk2
  obtain ⟨r0, r1, r2, r3, r4, r5, r6⟩ := c7_of hk1
  have hof := of_any aS cs s al cl l g ph a1 n1 c1 a2 n2 c2 f0 am cm m au cu us f _ (hg.below hB) (ht.below hB) (hs.below hB) hsl (hl.below hB) hll (hm.below hB) hml (hu.below hB) hul
  go_enter Tryz.func6, Tryz.ntmps6
  go_wp2_with fail
  refine hof.mono ?_
  clear hof
  rintro e w1 ⟨rfl, hb1⟩
  have hB1 := hB.trans (hb1.mono hB.size)
  have hk11 := (hb1.block _ (heap_lt hk1)).trans hk1
  have hk21 := (hb1.block _ (heap_lt hk2)).trans hk2
  clear hb1 hB hk1 hk2 y0 y1 y2 r0 r1 r2 r3 r4 r5 r6
  go_wp2_with fail
  refine (voteBegun_any w1 (hg.below hB1) (ht.below hB1)).mono ?_
  rintro e w2 ⟨rfl, hb2⟩
  have hB2 := hB1.trans (hb2.mono hB1.size)
  have hk12 := (hb2.block _ (heap_lt hk11)).trans hk11
  have hk22 := (hb2.block _ (heap_lt hk21)).trans hk21
  clear hb2 hB1 hk11 hk21
  go_wp2_with fail
  refine (pushBegun_any w2 (hg.below hB2)).mono ?_
  rintro e w3 ⟨rfl, hb3⟩
  have hB3 := hB2.trans (hb3.mono hB2.size)
  have hk13 := (hb3.block _ (heap_lt hk12)).trans hk12
  have hk23 := (hb3.block _ (heap_lt hk22)).trans hk22
  clear hb3 hB2 hk12 hk22
  have HS : Hid (voteS s l g m us f = sNil) := by unfold Hid voteS; rw [if_pos hv]
  rw [HS.out]
  have z1 : (voteE g m us != 0) = true := by simpa using hv
  have qn : (sNil.toList == sNil.toList) = true := by simp
  clear hv hk13 hk23
  go_wp2
  go_ret
  exact ⟨rfl, hB3⟩
end

section
open Go.RowKit
set_option maxRecDepth 100000

set_option maxHeartbeats 60000000 in
theorem voteSame_noA (aS : Option Addr) (cs : Nat) (s : List Ob) (al : Option Addr) (cl : Nat) (l : List Rf) (g ph : Int) (a1 : Option Addr) (n1 c1 : Nat) (a2 : Option Addr) (n2 c2 : Nat) (f0 : Bool) (am : Option Addr) (cm : Nat) (m : List Ob) (au : Option Addr) (cu : Nat) (us : List Up) (f turned : Bool) (w : World) (hg : Glob w) (ht : Tab w)
    (hs : HoldsS w aS s) (hsl : s.length ≤ 9223372036854775807) (hl : HoldsR w al l) (hll : l.length ≤ 9223372036854775807) (hm : HoldsS w am m) (hml : m.length ≤ 9223372036854775807) (hu : HoldsU w au us) (hul : us.length ≤ 9223372036854775807) (hv : voteE g m us = 0) (hne : tryE s l m us f ≠ 0) (hlen : turned = true → us.length = 1) :
    Calls Tryz.prog 6 #[replV aS s.length cs al l.length cl g ph a1 n1 c1 a2 n2 c2 f0, pushV am m.length cm au us.length cu f, .bool turned] w fun e w' => e = .returned (.bool true) ∧ Below w.heap.size w w' := by
  have HV : Hid (voteE g m us = 0) := hv
  have HTr : Hid (tryE s l m us f ≠ 0) := hne
  have HLn : Hid (turned = true → us.length = 1) := hlen
  clear hv hlen hne
  have hB := below_alloc2 w (.cells #[.slice aS s.length cs, .slice al l.length cl, .int .i64 g, .int .i64 ph, .slice a1 n1 c1, .slice a2 n2 c2, .bool f0] 28) (.cells #[.slice am m.length cm, .slice au us.length cu, .bool f] 26)
  obtain ⟨hk1, hk2⟩ := two_blocks w (.cells #[.slice aS s.length cs, .slice al l.length cl, .int .i64 g, .int .i64 ph, .slice a1 n1 c1, .slice a2 n2 c2, .bool f0] 28) (.cells #[.slice am m.length cm, .slice au us.length cu, .bool f] 26)
  obtain ⟨y0, y1, y2⟩ := c3_of hk2
  obtain ⟨r0, r1, r2, r3, r4, r5, r6⟩ := c7_of hk1
  have hof := of_any aS cs s al cl l g ph a1 n1 c1 a2 n2 c2 f0 am cm m au cu us f _ (hg.below hB) (ht.below hB) (hs.below hB) hsl (hl.below hB) hll (hm.below hB) hml (hu.below hB) hul
  go_enter Tryz.func6, Tryz.ntmps6
  go_wp2_with fail
  refine hof.mono ?_
  clear hof
  rintro e w1 ⟨rfl, hb1⟩
  have hB1 := hB.trans (hb1.mono hB.size)
  have hk11 := (hb1.block _ (heap_lt hk1)).trans hk1
  have hk21 := (hb1.block _ (heap_lt hk2)).trans hk2
  clear hb1 hB hk1 hk2 y0 y1 y2 r0 r1 r2 r3 r4 r5 r6
  go_wp2_with fail
  refine (voteBegun_any w1 (hg.below hB1) (ht.below hB1)).mono ?_
  rintro e w2 ⟨rfl, hb2⟩
  have hB2 := hB1.trans (hb2.mono hB1.size)
  have hk12 := (hb2.block _ (heap_lt hk11)).trans hk11
  have hk22 := (hb2.block _ (heap_lt hk21)).trans hk21
  clear hb2 hB1 hk11 hk21
  go_wp2_with fail
  refine (pushBegun_any w2 (hg.below hB2)).mono ?_
  rintro e w3 ⟨rfl, hb3⟩
  have hB3 := hB2.trans (hb3.mono hB2.size)
  have hk13 := (hb3.block _ (heap_lt hk12)).trans hk12
  have hk23 := (hb3.block _ (heap_lt hk22)).trans hk22
  clear hb3 hB2 hk12 hk22
  rw [HV.out]
  have HP : Hid (pushE m us = 0 ∧ 0 ≤ g ∧ g ≤ 999) := voteE_iff.1 HV.out
  have hu4 : us.length ≤ 4 := (checkU_iff.1 (pushE_iff.1 HP.out.1).2.2).2.1
  have hu1 : 0 < us.length := (checkU_iff.1 (pushE_iff.1 HP.out.1).2.2).1
  obtain ⟨y0, y1, y2⟩ := c3_of hk23
  obtain ⟨r0, r1, r2, r3, r4, r5, r6⟩ := c7_of hk13
  have htr := try_any aS cs s al cl l g ph a1 n1 c1 a2 n2 c2 f0 am cm m au cu us f w3 (hg.below hB3) (hs.below hB3) hsl (hl.below hB3) hll (hm.below hB3) hml (hu.below hB3) hul
  -- the two ways
  obtain ⟨T, hT⟩ : ∃ T, T = voteS s l g m us f := ⟨_, rfl⟩
  rw [← hT]
  have HT : Hid (T = voteS s l g m us f) := hT
  clear hT
  go_wp2_with fail
  refine htr.mono ?_
  clear htr
  rintro e w4 ⟨hb4, hpost⟩
  have hB4 := hB3.trans (hb4.mono hB3.size)
  have hk14 := (hb4.block _ (heap_lt hk13)).trans hk13
  have hk24 := (hb4.block _ (heap_lt hk23)).trans hk23
  clear hb4 hB3 hk13 hk23 y0 y1 y2 r0 r1 r2 r3 r4 r5 r6
  obtain ⟨b, off, rfl, hbu, hcu⟩ := hu 0 hu1
  obtain rfl : e = .returned (.tuple #[.slice none 0 0, .slice none 0 0, .int .i64 (tryE s l m us f)]) := by
    rcases hpost with ⟨_, q⟩ | ⟨q, _⟩
    · exact q
    · exact absurd q HTr.out
  clear hpost
  have hne := HTr.out
  have hsz : T.size = 4 := by rw [HT.out]; exact vote_no HV.out hne
  have hle : ¬ (4 : Int) < (T.size : Int) := by omega
  have z1 : (tryE s l m us f == 0) = false := by simpa using hne
  have z2 : (tryE s l m us f != 0) = true := by simpa using hne
  go_upto_region 9 with fail
  go_cut [12] from 50 to 58 (fun s12 wx => ∃ q gq cap cur, s12 = .pointer (some ⟨q, 0, none⟩) ∧ Qu w4 wx am m.length cm f us q gq cap cur)
  case first =>
    have hdr := (Below.refl w4.heap.size w4).drew
    have hS0 : w4.drew.cell? ⟨w.heap.size + 1, 0, none⟩ = some (.slice am m.length cm) ∧ w4.drew.cell? ⟨w.heap.size + 1, 1, none⟩ = some (.slice (some ⟨b, off, none⟩) us.length cu) ∧ w4.drew.cell? ⟨w.heap.size + 1, 2, none⟩ = some (.bool f) := c3_of hk24
    have hU0 : ∀ k (hk : k < us.length), UpAt w4.drew b (off + k * 3) us[k] := fun k hk => ⟨cell_keep (hB4.trans (hdr.mono hB4.size)) hbu (hcu k hk).1, cell_keep (hB4.trans (hdr.mono hB4.size)) hbu (hcu k hk).2.1, cell_keep (hB4.trans (hdr.mono hB4.size)) hbu (hcu k hk).2.2⟩
    have hbW : b < w4.drew.heap.size := Nat.lt_of_lt_of_le hbu (hB4.trans (hdr.mono hB4.size)).size
    have hpW : w.heap.size + 1 < w4.drew.heap.size := heap_lt hk24
    refine wp_region_E (fun W => W.cell? ⟨w.heap.size + 1, 0, none⟩ = some (.slice am m.length cm) ∧ W.cell? ⟨w.heap.size + 1, 1, none⟩ = some (.slice (some ⟨b, off, none⟩) us.length cu) ∧ W.cell? ⟨w.heap.size + 1, 2, none⟩ = some (.bool f)) (fun _ => false) (by kernel_rfl) hS0 (fun hS => ?_)
    generalize w4.drew = W0 at *
    refine wpAnyE.take (i := 0) (v := ?_) rfl (by kernel_rfl) (by kernel_rfl) (by kernel_rfl) (by kernel_rfl) (fun _ _ _ h => h) (Or.inl ⟨by rfl, ?_⟩) (by assumption) ?_
    rotate_left
    · intro w hSw; obtain ⟨z0, z1, z2⟩ := hSw; go_simp; with_reducible rfl
    try simp only [Act.put, List.getElem_toArray, List.getElem_cons_zero, List.setIfInBounds_toArray, List.set_cons_zero, List.set_cons_succ]
    refine wpAnyE.take (i := 1) (v := ?_) rfl (by kernel_rfl) (by kernel_rfl) (by kernel_rfl) (by kernel_rfl) (fun _ _ _ h => h) (Or.inl ⟨by rfl, ?_⟩) (by assumption) ?_
    rotate_left
    · intro w hSw; obtain ⟨z0, z1, z2⟩ := hSw; go_simp; with_reducible rfl
    try simp only [Act.put, List.getElem_toArray, List.getElem_cons_succ, List.getElem_cons_zero, List.setIfInBounds_toArray, List.set_cons_zero, List.set_cons_succ]
    refine wpAnyE.take (i := 3) (v := ?_) rfl (by kernel_rfl) (by kernel_rfl) (by kernel_rfl) (by kernel_rfl) (fun _ _ _ h => h) (Or.inl ⟨by rfl, ?_⟩) (by assumption) ?_
    rotate_left
    · intro w hSw; obtain ⟨z0, z1, z2⟩ := hSw; go_simp; with_reducible rfl
    try simp only [Act.put, List.getElem_toArray, List.getElem_cons_succ, List.getElem_cons_zero, List.setIfInBounds_toArray, List.set_cons_zero, List.set_cons_succ]
    refine wpAnyE.take (i := 4) (v := ?_) rfl (by kernel_rfl) (by kernel_rfl) (by kernel_rfl) (by kernel_rfl) (fun _ _ _ h => h) (Or.inl ⟨by rfl, ?_⟩) (by assumption) ?_
    rotate_left
    · intro w hSw; obtain ⟨z0, z1, z2⟩ := hSw; go_simp; with_reducible rfl
    try simp only [Act.put, List.getElem_toArray, List.getElem_cons_succ, List.getElem_cons_zero, List.setIfInBounds_toArray, List.set_cons_zero, List.set_cons_succ]
    refine wpAnyE.take (i := 6) (v := ?_) rfl (by kernel_rfl) (by kernel_rfl) (by kernel_rfl) (by kernel_rfl) (fun _ _ _ h => h) (Or.inl ⟨by rfl, ?_⟩) (by assumption) ?_
    rotate_left
    · intro w hSw; obtain ⟨z0, z1, z2⟩ := hSw; go_simp; with_reducible rfl
    try simp only [Act.put, List.getElem_toArray, List.getElem_cons_succ, List.getElem_cons_zero, List.setIfInBounds_toArray, List.set_cons_zero, List.set_cons_succ]
    refine wpAnyE.take (i := 7) (v := ?_) rfl (by kernel_rfl) (by kernel_rfl) (by kernel_rfl) (by kernel_rfl) (fun _ _ _ h => h) (Or.inl ⟨by rfl, ?_⟩) (by assumption) ?_
    rotate_left
    · intro w hSw; obtain ⟨z0, z1, z2⟩ := hSw; go_simp; with_reducible rfl
    try simp only [Act.put, List.getElem_toArray, List.getElem_cons_succ, List.getElem_cons_zero, List.setIfInBounds_toArray, List.set_cons_zero, List.set_cons_succ]
    refine wpAnyE.two (i := 2) (j := 9) (by kernel_rfl) rfl rfl (fun K hK => ?_) (fun K hK => ?_)
    · go_simp
      obtain ⟨W1, hW1⟩ : ∃ W1, W1 = W0.alloc (.cells #[] 45) := ⟨_, rfl⟩
      have hb1 : Below W0.heap.size W0 W1 := by rw [hW1]; exact below_alloc _ _
      have kW1 : W1.heap[W0.heap.size]? = some (.cells #[] 45) := by rw [hW1]; exact heap_alloc_new W0 _
      have sW1 : W0.heap.size < W1.heap.size := by rw [hW1]; simp
      rw [← hW1]
      clear hW1
      have hSn : W1.cell? ⟨w.heap.size + 1, 0, none⟩ = some (.slice am m.length cm) ∧ W1.cell? ⟨w.heap.size + 1, 1, none⟩ = some (.slice (some ⟨b, off, none⟩) us.length cu) ∧ W1.cell? ⟨w.heap.size + 1, 2, none⟩ = some (.bool f) := ⟨cell_keep hb1 (by omega) hS0.1, cell_keep hb1 (by omega) hS0.2.1, cell_keep hb1 (by omega) hS0.2.2⟩
      have hUn : ∀ k (hk : k < us.length), UpAt W1 b (off + k * 3) us[k] := fun k hk => ⟨cell_keep hb1 (by omega) (hU0 k hk).1, cell_keep hb1 (by omega) (hU0 k hk).2.1, cell_keep hb1 (by omega) (hU0 k hk).2.2⟩
      clear hS0 hU0
      have hS0 := hSn
      have hU0 := hUn
      clear hSn hUn
      refine hK _ _ (fun _ => hS0) ?_
      clear hK K
      try simp only [Act.put, List.getElem_toArray, List.getElem_cons_succ, List.getElem_cons_zero, List.setIfInBounds_toArray, List.set_cons_zero, List.set_cons_succ]
      refine wpAnyE.two (i := 5) (j := 9) (by kernel_rfl) rfl rfl (fun K hK => ?_) (fun K hK => ?_)
      · skip
        obtain ⟨gq, cap, cur, Wa, hra, hca, hga, hka, hta, hsa, hgr⟩ := app_ups W1 24 W0.heap.size b off cu us kW1 hU0 hu4 hu1
        refine step_append_t (by rfl) (.tmp 52) (.tmp 54) (by rfl) _ _ (by rfl) (by rfl) hra ?_
        have hba : Below W0.heap.size W1 Wa := ⟨hgr.os, hgr.tape, hgr.output, hgr.size, fun k hk => hgr.block k (by have := heap_lt kW1; omega) (fun e => by simp at e; omega)⟩
        have hSn : Wa.cell? ⟨w.heap.size + 1, 0, none⟩ = some (.slice am m.length cm) ∧ Wa.cell? ⟨w.heap.size + 1, 1, none⟩ = some (.slice (some ⟨b, off, none⟩) us.length cu) ∧ Wa.cell? ⟨w.heap.size + 1, 2, none⟩ = some (.bool f) := ⟨cell_keep hba (by omega) hS0.1, cell_keep hba (by omega) hS0.2.1, cell_keep hba (by omega) hS0.2.2⟩
        clear hS0 hU0
        have hS0 := hSn
        clear hSn hra
        refine hK _ _ (fun _ => hS0) ?_
        clear hK K
        try simp only [Act.put, List.getElem_toArray, List.getElem_cons_succ, List.getElem_cons_zero, List.setIfInBounds_toArray, List.set_cons_zero, List.set_cons_succ]
        refine wpAnyE.take (i := 8) (v := ?_) rfl (by kernel_rfl) (by kernel_rfl) (by kernel_rfl) (by kernel_rfl) (fun _ _ _ h => h) (Or.inl ⟨by rfl, ?_⟩) (by assumption) ?_
        rotate_left
        · intro w hSw; obtain ⟨z0, z1, z2⟩ := hSw; go_simp; with_reducible rfl
        try simp only [Act.put, List.getElem_toArray, List.getElem_cons_succ, List.getElem_cons_zero, List.setIfInBounds_toArray, List.set_cons_zero, List.set_cons_succ]
        refine wpAnyE.one (i := 9) (by kernel_rfl) rfl (fun K hK => ?_)
        go_simp
        obtain ⟨W3, hW3⟩ : ∃ W3, W3 = Wa.alloc (.cells #[.slice none 0 0, .slice none 0 0, .bool false] 26) := ⟨_, rfl⟩
        have hb3 : Below Wa.heap.size Wa W3 := by rw [hW3]; exact below_alloc _ _
        have kW3 : W3.heap[Wa.heap.size]? = some (.cells #[.slice none 0 0, .slice none 0 0, .bool false] 26) := by rw [hW3]; exact heap_alloc_new Wa _
        have sW3 : Wa.heap.size < W3.heap.size := by rw [hW3]; simp
        rw [← hW3]
        clear hW3
        have hSn : W3.cell? ⟨w.heap.size + 1, 0, none⟩ = some (.slice am m.length cm) ∧ W3.cell? ⟨w.heap.size + 1, 1, none⟩ = some (.slice (some ⟨b, off, none⟩) us.length cu) ∧ W3.cell? ⟨w.heap.size + 1, 2, none⟩ = some (.bool f) := ⟨cell_keep hb3 (by have := hgr.size; omega) hS0.1, cell_keep hb3 (by have := hgr.size; omega) hS0.2.1, cell_keep hb3 (by have := hgr.size; omega) hS0.2.2⟩
        clear hS0
        have hS0 := hSn
        clear hSn
        refine hK _ _ (fun _ => hS0) ?_
        clear hK K
        try simp only [Act.put, List.getElem_toArray, List.getElem_cons_succ, List.getElem_cons_zero, List.setIfInBounds_toArray, List.set_cons_zero, List.set_cons_succ]
        refine wpAnyE.one (i := 10) (by kernel_rfl) rfl (fun K hK => ?_)
        obtain ⟨cq0, cq1, cq2⟩ := c3_of kW3
        have fq0 := f_of (o := 0) kW3
        have fq1 := f_of (o := 1) kW3
        have fq2 := f_of (o := 2) kW3
        have hset := set3_block W3 Wa.heap.size (.slice am m.length cm) (.slice (some ⟨gq, 0, none⟩) us.length cap) (.bool f) kW3
        go_simp
        obtain ⟨Wf, hWf⟩ : ∃ Wf, Wf = (((W3.setCell ⟨Wa.heap.size, 0, none⟩ (.slice am m.length cm)).setCell ⟨Wa.heap.size, 1, none⟩ (.slice (some ⟨gq, 0, none⟩) us.length cap)).setCell ⟨Wa.heap.size, 2, none⟩ (.bool f)) := ⟨_, rfl⟩
        rw [← hWf] at hset ⊢
        have HQ : Qu w4 Wf am m.length cm f us Wa.heap.size gq cap cur := ⟨((hdr.trans (hb1.mono (by have := hdr.size; omega))).trans (hba.mono (by have := hdr.size; omega))).trans ((hb3.trans (hset.2.1.mono (by omega))).mono (by have := hdr.size; have := hgr.size; omega)), hset.1, (hset.2.2 _ (by have := heap_lt hka; omega)).trans ((hb3.block _ (heap_lt hka)).trans hka), hta, hsa, hca, by have := hdr.size; have := hgr.size; omega, by have := hdr.size; omega, by have := heap_lt hka; omega⟩
        have hSf : Wf.cell? ⟨w.heap.size + 1, 0, none⟩ = some (.slice am m.length cm) ∧ Wf.cell? ⟨w.heap.size + 1, 1, none⟩ = some (.slice (some ⟨b, off, none⟩) us.length cu) ∧ Wf.cell? ⟨w.heap.size + 1, 2, none⟩ = some (.bool f) := ⟨far_keep hset.2.2 (by have := hgr.size; omega) hS0.1, far_keep hset.2.2 (by have := hgr.size; omega) hS0.2.1, far_keep hset.2.2 (by have := hgr.size; omega) hS0.2.2⟩
        refine hK _ _ (fun _ => hSf) ?_
        clear hK K
        try simp only [Act.put, List.getElem_toArray, List.getElem_cons_succ, List.getElem_cons_zero, List.setIfInBounds_toArray, List.set_cons_zero, List.set_cons_succ]
        refine wpAnyE.done (by kernel_rfl) ?_
        go_wp2_with fail
        go_meet
        exact ⟨_, _, _, _, rfl, HQ⟩
      · go_simp
        obtain ⟨W2, hW2⟩ : ∃ W2, W2 = W1.alloc (.cells #[.slice none 0 0, .slice none 0 0, .bool false] 26) := ⟨_, rfl⟩
        have hb2 : Below W1.heap.size W1 W2 := by rw [hW2]; exact below_alloc _ _
        have kW2 : W2.heap[W1.heap.size]? = some (.cells #[.slice none 0 0, .slice none 0 0, .bool false] 26) := by rw [hW2]; exact heap_alloc_new W1 _
        have sW2 : W1.heap.size < W2.heap.size := by rw [hW2]; simp
        rw [← hW2]
        clear hW2
        have hSn : W2.cell? ⟨w.heap.size + 1, 0, none⟩ = some (.slice am m.length cm) ∧ W2.cell? ⟨w.heap.size + 1, 1, none⟩ = some (.slice (some ⟨b, off, none⟩) us.length cu) ∧ W2.cell? ⟨w.heap.size + 1, 2, none⟩ = some (.bool f) := ⟨cell_keep hb2 (by omega) hS0.1, cell_keep hb2 (by omega) hS0.2.1, cell_keep hb2 (by omega) hS0.2.2⟩
        have hUn : ∀ k (hk : k < us.length), UpAt W2 b (off + k * 3) us[k] := fun k hk => ⟨cell_keep hb2 (by omega) (hU0 k hk).1, cell_keep hb2 (by omega) (hU0 k hk).2.1, cell_keep hb2 (by omega) (hU0 k hk).2.2⟩
        clear hS0 hU0
        have hS0 := hSn
        have hU0 := hUn
        clear hSn hUn
        have kz := (hb2.block _ (heap_lt kW1)).trans kW1
        refine hK _ _ (fun _ => hS0) ?_
        clear hK K
        try simp only [Act.put, List.getElem_toArray, List.getElem_cons_succ, List.getElem_cons_zero, List.setIfInBounds_toArray, List.set_cons_zero, List.set_cons_succ]
        refine wpAnyE.one (i := 5) (by kernel_rfl) rfl (fun K hK => ?_)
        obtain ⟨gq, cap, cur, Wa, hra, hca, hga, hka, hta, hsa, hgr⟩ := app_ups W2 24 W0.heap.size b off cu us kz hU0 hu4 hu1
        refine step_append_t (by rfl) (.tmp 52) (.tmp 54) (by rfl) _ _ (by rfl) (by rfl) hra ?_
        have hba : Below W0.heap.size W2 Wa := ⟨hgr.os, hgr.tape, hgr.output, hgr.size, fun k hk => hgr.block k (by have := heap_lt kz; omega) (fun e => by simp at e; omega)⟩
        have hSn : Wa.cell? ⟨w.heap.size + 1, 0, none⟩ = some (.slice am m.length cm) ∧ Wa.cell? ⟨w.heap.size + 1, 1, none⟩ = some (.slice (some ⟨b, off, none⟩) us.length cu) ∧ Wa.cell? ⟨w.heap.size + 1, 2, none⟩ = some (.bool f) := ⟨cell_keep hba (by omega) hS0.1, cell_keep hba (by omega) hS0.2.1, cell_keep hba (by omega) hS0.2.2⟩
        clear hS0 hU0
        have hS0 := hSn
        clear hSn hra
        have kq := (hgr.block W1.heap.size (heap_lt kW2) (fun e => by simp at e; omega)).trans kW2
        refine hK _ _ (fun _ => hS0) ?_
        clear hK K
        try simp only [Act.put, List.getElem_toArray, List.getElem_cons_succ, List.getElem_cons_zero, List.setIfInBounds_toArray, List.set_cons_zero, List.set_cons_succ]
        refine wpAnyE.take (i := 8) (v := ?_) rfl (by kernel_rfl) (by kernel_rfl) (by kernel_rfl) (by kernel_rfl) (fun _ _ _ h => h) (Or.inl ⟨by rfl, ?_⟩) (by assumption) ?_
        rotate_left
        · intro w hSw; obtain ⟨z0, z1, z2⟩ := hSw; go_simp; with_reducible rfl
        try simp only [Act.put, List.getElem_toArray, List.getElem_cons_succ, List.getElem_cons_zero, List.setIfInBounds_toArray, List.set_cons_zero, List.set_cons_succ]
        refine wpAnyE.one (i := 10) (by kernel_rfl) rfl (fun K hK => ?_)
        obtain ⟨cq0, cq1, cq2⟩ := c3_of kq
        have fq0 := f_of (o := 0) kq
        have fq1 := f_of (o := 1) kq
        have fq2 := f_of (o := 2) kq
        have hset := set3_block Wa W1.heap.size (.slice am m.length cm) (.slice (some ⟨gq, 0, none⟩) us.length cap) (.bool f) kq
        go_simp
        obtain ⟨Wf, hWf⟩ : ∃ Wf, Wf = (((Wa.setCell ⟨W1.heap.size, 0, none⟩ (.slice am m.length cm)).setCell ⟨W1.heap.size, 1, none⟩ (.slice (some ⟨gq, 0, none⟩) us.length cap)).setCell ⟨W1.heap.size, 2, none⟩ (.bool f)) := ⟨_, rfl⟩
        rw [← hWf] at hset ⊢
        have HQ : Qu w4 Wf am m.length cm f us W1.heap.size gq cap cur := ⟨(((hdr.trans (hb1.mono (by have := hdr.size; omega))).trans (hb2.mono (by have := hdr.size; omega))).trans (hba.mono (by have := hdr.size; omega))).trans (hset.2.1.mono (by have := hdr.size; omega)), hset.1, (hset.2.2 _ (by omega)).trans hka, hta, hsa, hca, by have := hdr.size; omega, by have := hdr.size; omega, by omega⟩
        have hSf : Wf.cell? ⟨w.heap.size + 1, 0, none⟩ = some (.slice am m.length cm) ∧ Wf.cell? ⟨w.heap.size + 1, 1, none⟩ = some (.slice (some ⟨b, off, none⟩) us.length cu) ∧ Wf.cell? ⟨w.heap.size + 1, 2, none⟩ = some (.bool f) := ⟨far_keep hset.2.2 (by have := hgr.size; omega) hS0.1, far_keep hset.2.2 (by have := hgr.size; omega) hS0.2.1, far_keep hset.2.2 (by have := hgr.size; omega) hS0.2.2⟩
        refine hK _ _ (fun _ => hSf) ?_
        clear hK K
        try simp only [Act.put, List.getElem_toArray, List.getElem_cons_succ, List.getElem_cons_zero, List.setIfInBounds_toArray, List.set_cons_zero, List.set_cons_succ]
        refine wpAnyE.done (by kernel_rfl) ?_
        go_wp2_with fail
        go_meet
        exact ⟨_, _, _, _, rfl, HQ⟩
    · go_simp
      obtain ⟨W1, hW1⟩ : ∃ W1, W1 = W0.alloc (.cells #[.slice none 0 0, .slice none 0 0, .bool false] 26) := ⟨_, rfl⟩
      have hb1 : Below W0.heap.size W0 W1 := by rw [hW1]; exact below_alloc _ _
      have kW1 : W1.heap[W0.heap.size]? = some (.cells #[.slice none 0 0, .slice none 0 0, .bool false] 26) := by rw [hW1]; exact heap_alloc_new W0 _
      have sW1 : W0.heap.size < W1.heap.size := by rw [hW1]; simp
      rw [← hW1]
      clear hW1
      have hSn : W1.cell? ⟨w.heap.size + 1, 0, none⟩ = some (.slice am m.length cm) ∧ W1.cell? ⟨w.heap.size + 1, 1, none⟩ = some (.slice (some ⟨b, off, none⟩) us.length cu) ∧ W1.cell? ⟨w.heap.size + 1, 2, none⟩ = some (.bool f) := ⟨cell_keep hb1 (by omega) hS0.1, cell_keep hb1 (by omega) hS0.2.1, cell_keep hb1 (by omega) hS0.2.2⟩
      have hUn : ∀ k (hk : k < us.length), UpAt W1 b (off + k * 3) us[k] := fun k hk => ⟨cell_keep hb1 (by omega) (hU0 k hk).1, cell_keep hb1 (by omega) (hU0 k hk).2.1, cell_keep hb1 (by omega) (hU0 k hk).2.2⟩
      clear hS0 hU0
      have hS0 := hSn
      have hU0 := hUn
      clear hSn hUn
      refine hK _ _ (fun _ => hS0) ?_
      clear hK K
      try simp only [Act.put, List.getElem_toArray, List.getElem_cons_succ, List.getElem_cons_zero, List.setIfInBounds_toArray, List.set_cons_zero, List.set_cons_succ]
      refine wpAnyE.one (i := 2) (by kernel_rfl) rfl (fun K hK => ?_)
      go_simp
      obtain ⟨W2, hW2⟩ : ∃ W2, W2 = W1.alloc (.cells #[] 45) := ⟨_, rfl⟩
      have hb2 : Below W1.heap.size W1 W2 := by rw [hW2]; exact below_alloc _ _
      have kW2 : W2.heap[W1.heap.size]? = some (.cells #[] 45) := by rw [hW2]; exact heap_alloc_new W1 _
      have sW2 : W1.heap.size < W2.heap.size := by rw [hW2]; simp
      rw [← hW2]
      clear hW2
      have hSn : W2.cell? ⟨w.heap.size + 1, 0, none⟩ = some (.slice am m.length cm) ∧ W2.cell? ⟨w.heap.size + 1, 1, none⟩ = some (.slice (some ⟨b, off, none⟩) us.length cu) ∧ W2.cell? ⟨w.heap.size + 1, 2, none⟩ = some (.bool f) := ⟨cell_keep hb2 (by omega) hS0.1, cell_keep hb2 (by omega) hS0.2.1, cell_keep hb2 (by omega) hS0.2.2⟩
      have hUn : ∀ k (hk : k < us.length), UpAt W2 b (off + k * 3) us[k] := fun k hk => ⟨cell_keep hb2 (by omega) (hU0 k hk).1, cell_keep hb2 (by omega) (hU0 k hk).2.1, cell_keep hb2 (by omega) (hU0 k hk).2.2⟩
      clear hS0 hU0
      have hS0 := hSn
      have hU0 := hUn
      clear hSn hUn
      have kz := (hb2.block _ (heap_lt kW1)).trans kW1
      refine hK _ _ (fun _ => hS0) ?_
      clear hK K
      try simp only [Act.put, List.getElem_toArray, List.getElem_cons_succ, List.getElem_cons_zero, List.setIfInBounds_toArray, List.set_cons_zero, List.set_cons_succ]
      refine wpAnyE.one (i := 5) (by kernel_rfl) rfl (fun K hK => ?_)
      obtain ⟨gq, cap, cur, Wa, hra, hca, hga, hka, hta, hsa, hgr⟩ := app_ups W2 24 W1.heap.size b off cu us kW2 hU0 hu4 hu1
      refine step_append_t (by rfl) (.tmp 52) (.tmp 54) (by rfl) _ _ (by rfl) (by rfl) hra ?_
      have hba : Below W1.heap.size W2 Wa := ⟨hgr.os, hgr.tape, hgr.output, hgr.size, fun k hk => hgr.block k (by have := heap_lt kW2; omega) (fun e => by simp at e; omega)⟩
      have hSn : Wa.cell? ⟨w.heap.size + 1, 0, none⟩ = some (.slice am m.length cm) ∧ Wa.cell? ⟨w.heap.size + 1, 1, none⟩ = some (.slice (some ⟨b, off, none⟩) us.length cu) ∧ Wa.cell? ⟨w.heap.size + 1, 2, none⟩ = some (.bool f) := ⟨cell_keep hba (by omega) hS0.1, cell_keep hba (by omega) hS0.2.1, cell_keep hba (by omega) hS0.2.2⟩
      clear hS0 hU0
      have hS0 := hSn
      clear hSn hra
      have kq := (hgr.block W0.heap.size (heap_lt kz) (fun e => by simp at e; omega)).trans kz
      refine hK _ _ (fun _ => hS0) ?_
      clear hK K
      try simp only [Act.put, List.getElem_toArray, List.getElem_cons_succ, List.getElem_cons_zero, List.setIfInBounds_toArray, List.set_cons_zero, List.set_cons_succ]
      refine wpAnyE.take (i := 8) (v := ?_) rfl (by kernel_rfl) (by kernel_rfl) (by kernel_rfl) (by kernel_rfl) (fun _ _ _ h => h) (Or.inl ⟨by rfl, ?_⟩) (by assumption) ?_
      rotate_left
      · intro w hSw; obtain ⟨z0, z1, z2⟩ := hSw; go_simp; with_reducible rfl
      try simp only [Act.put, List.getElem_toArray, List.getElem_cons_succ, List.getElem_cons_zero, List.setIfInBounds_toArray, List.set_cons_zero, List.set_cons_succ]
      refine wpAnyE.one (i := 10) (by kernel_rfl) rfl (fun K hK => ?_)
      obtain ⟨cq0, cq1, cq2⟩ := c3_of kq
      have fq0 := f_of (o := 0) kq
      have fq1 := f_of (o := 1) kq
      have fq2 := f_of (o := 2) kq
      have hset := set3_block Wa W0.heap.size (.slice am m.length cm) (.slice (some ⟨gq, 0, none⟩) us.length cap) (.bool f) kq
      go_simp
      obtain ⟨Wf, hWf⟩ : ∃ Wf, Wf = (((Wa.setCell ⟨W0.heap.size, 0, none⟩ (.slice am m.length cm)).setCell ⟨W0.heap.size, 1, none⟩ (.slice (some ⟨gq, 0, none⟩) us.length cap)).setCell ⟨W0.heap.size, 2, none⟩ (.bool f)) := ⟨_, rfl⟩
      rw [← hWf] at hset ⊢
      have HQ : Qu w4 Wf am m.length cm f us W0.heap.size gq cap cur := ⟨(((hdr.trans (hb1.mono (by have := hdr.size; omega))).trans (hb2.mono (by have := hdr.size; omega))).trans (hba.mono (by have := hdr.size; omega))).trans (hset.2.1.mono (by have := hdr.size; omega)), hset.1, (hset.2.2 _ (by omega)).trans hka, hta, hsa, hca, by have := hdr.size; omega, by have := hdr.size; omega, by omega⟩
      have hSf : Wf.cell? ⟨w.heap.size + 1, 0, none⟩ = some (.slice am m.length cm) ∧ Wf.cell? ⟨w.heap.size + 1, 1, none⟩ = some (.slice (some ⟨b, off, none⟩) us.length cu) ∧ Wf.cell? ⟨w.heap.size + 1, 2, none⟩ = some (.bool f) := ⟨far_keep hset.2.2 (by have := hgr.size; omega) hS0.1, far_keep hset.2.2 (by have := hgr.size; omega) hS0.2.1, far_keep hset.2.2 (by have := hgr.size; omega) hS0.2.2⟩
      refine hK _ _ (fun _ => hSf) ?_
      clear hK K
      try simp only [Act.put, List.getElem_toArray, List.getElem_cons_succ, List.getElem_cons_zero, List.setIfInBounds_toArray, List.set_cons_zero, List.set_cons_succ]
      refine wpAnyE.done (by kernel_rfl) ?_
      go_wp2_with fail
      go_meet
      exact ⟨_, _, _, _, rfl, HQ⟩
  case rest =>
    obtain ⟨q, gq, cap, cur, rfl, Q⟩ := hcut
    have hBc := hB4.trans (Q.hb.mono hB4.size)
    have hk1c := (Q.hb.block _ (heap_lt hk14)).trans hk14
    have hqw : w.heap.size < q := Nat.lt_of_lt_of_le (heap_lt hk14) Q.q1
    have hgw : w.heap.size < gq := Nat.lt_of_lt_of_le (heap_lt hk14) Q.g1
    have HCall : Hid (∀ (vs : List Up) (W : World), vs.Perm us → Below w.heap.size w W → HoldsU W (some ⟨gq, 0, none⟩) vs → Calls Tryz.prog 19 #[replV aS s.length cs al l.length cl g ph a1 n1 c1 a2 n2 c2 f0, pushV am m.length cm (some ⟨gq, 0, none⟩) us.length cap f] W fun e w' => e = .returned (.tuple #[.string (voteS s l g m vs f), .int .i64 0]) ∧ Below W.heap.size W w') := fun vs W hp hb hv => by
      have h := of_any aS cs s al cl l g ph a1 n1 c1 a2 n2 c2 f0 am cm m (some ⟨gq, 0, none⟩) cap vs f W (hg.below hb) (ht.below hb) (hs.below hb) hsl (hl.below hb) hll (hm.below hb) hml hv (by rw [hp.length_eq]; exact hul)
      rw [voteE_iff.2 ⟨push_perm hp HP.out.1, HP.out.2⟩, hp.length_eq] at h
      exact h
    have hUc := holdsU_cur Q.hu Q.ht
    have hkq := Q.hq
    have hku := Q.hu
    obtain ⟨rr, hcur⟩ := cur_of Q.ht
    have hgq := Q.ne
    have hcap := Q.hc
    clear Q hk14 hk24 hB4 hs hl hm hcu hu HT HV HP hsz hle hg ht
    cases turned with
    | false =>
      obtain ⟨q0, q1, q2⟩ := c3_of hkq
      have hcl := HCall.out us wc (List.Perm.refl _) hBc hUc
      obtain ⟨q0, q1, q2⟩ := c3_of hkq
      obtain ⟨r0, r1, r2, r3, r4, r5, r6⟩ := c7_of hk1c
      go_wp2_with fail
      refine hcl.mono ?_
      clear hcl
      rintro e w6 ⟨rfl, hb6⟩
      have hB6 := hBc.trans (hb6.mono hBc.size)
      clear hb6 q0 q1 q2 r0 r1 r2 r3 r4 r5 r6
      go_wp2
      go_ret
      exact ⟨rfl, hB6⟩
    | true =>
      have h1 : us.length = 1 := HLn.out rfl
      have h1' : ¬ (1 : Int) < (us.length : Int) := by omega
      obtain ⟨q0, q1, q2⟩ := c3_of hkq
      clear h1
      have hcl := HCall.out us wc (List.Perm.refl _) hBc hUc
      obtain ⟨q0, q1, q2⟩ := c3_of hkq
      obtain ⟨r0, r1, r2, r3, r4, r5, r6⟩ := c7_of hk1c
      go_wp2_with fail
      refine hcl.mono ?_
      clear hcl
      rintro e w6 ⟨rfl, hb6⟩
      have hB6 := hBc.trans (hb6.mono hBc.size)
      clear hb6 q0 q1 q2 r0 r1 r2 r3 r4 r5 r6
      go_wp2
      go_ret
      exact ⟨rfl, hB6⟩
end

section
open Go.RowKit
set_option maxRecDepth 100000

set_option maxHeartbeats 60000000 in
theorem voteSame_no2 (aS : Option Addr) (cs : Nat) (s : List Ob) (al : Option Addr) (cl : Nat) (l : List Rf) (g ph : Int) (a1 : Option Addr) (n1 c1 : Nat) (a2 : Option Addr) (n2 c2 : Nat) (f0 : Bool) (am : Option Addr) (cm : Nat) (m : List Ob) (au : Option Addr) (cu : Nat) (us : List Up) (f : Bool) (w : World) (hg : Glob w) (ht : Tab w)
    (hs : HoldsS w aS s) (hsl : s.length ≤ 9223372036854775807) (hl : HoldsR w al l) (hll : l.length ≤ 9223372036854775807) (hm : HoldsS w am m) (hml : m.length ≤ 9223372036854775807) (hu : HoldsU w au us) (hul : us.length ≤ 9223372036854775807) (hv : voteE g m us = 0) (hne : tryE s l m us f ≠ 0) (hlen : us.length = 2) :
    Calls Tryz.prog 6 #[replV aS s.length cs al l.length cl g ph a1 n1 c1 a2 n2 c2 f0, pushV am m.length cm au us.length cu f, .bool true] w fun e w' => e = .returned (.bool true) ∧ Below w.heap.size w w' := by
  have HV : Hid (voteE g m us = 0) := hv
  have HTr : Hid (tryE s l m us f ≠ 0) := hne
  have HLn : Hid (us.length = 2) := hlen
  clear hv hlen hne
  have hB := below_alloc2 w (.cells #[.slice aS s.length cs, .slice al l.length cl, .int .i64 g, .int .i64 ph, .slice a1 n1 c1, .slice a2 n2 c2, .bool f0] 28) (.cells #[.slice am m.length cm, .slice au us.length cu, .bool f] 26)
  obtain ⟨hk1, hk2⟩ := two_blocks w (.cells #[.slice aS s.length cs, .slice al l.length cl, .int .i64 g, .int .i64 ph, .slice a1 n1 c1, .slice a2 n2 c2, .bool f0] 28) (.cells #[.slice am m.length cm, .slice au us.length cu, .bool f] 26)
  obtain ⟨y0, y1, y2⟩ := c3_of hk2
  obtain ⟨r0, r1, r2, r3, r4, r5, r6⟩ := c7_of hk1
  have hof := of_any aS cs s al cl l g ph a1 n1 c1 a2 n2 c2 f0 am cm m au cu us f _ (hg.below hB) (ht.below hB) (hs.below hB) hsl (hl.below hB) hll (hm.below hB) hml (hu.below hB) hul
  go_enter Tryz.func6, Tryz.ntmps6
  go_wp2_with fail
  refine hof.mono ?_
  clear hof
  rintro e w1 ⟨rfl, hb1⟩
  have hB1 := hB.trans (hb1.mono hB.size)
  have hk11 := (hb1.block _ (heap_lt hk1)).trans hk1
  have hk21 := (hb1.block _ (heap_lt hk2)).trans hk2
  clear hb1 hB hk1 hk2 y0 y1 y2 r0 r1 r2 r3 r4 r5 r6
  go_wp2_with fail
  refine (voteBegun_any w1 (hg.below hB1) (ht.below hB1)).mono ?_
  rintro e w2 ⟨rfl, hb2⟩
  have hB2 := hB1.trans (hb2.mono hB1.size)
  have hk12 := (hb2.block _ (heap_lt hk11)).trans hk11
  have hk22 := (hb2.block _ (heap_lt hk21)).trans hk21
  clear hb2 hB1 hk11 hk21
  go_wp2_with fail
  refine (pushBegun_any w2 (hg.below hB2)).mono ?_
  rintro e w3 ⟨rfl, hb3⟩
  have hB3 := hB2.trans (hb3.mono hB2.size)
  have hk13 := (hb3.block _ (heap_lt hk12)).trans hk12
  have hk23 := (hb3.block _ (heap_lt hk22)).trans hk22
  clear hb3 hB2 hk12 hk22
  rw [HV.out]
  have HP : Hid (pushE m us = 0 ∧ 0 ≤ g ∧ g ≤ 999) := voteE_iff.1 HV.out
  have hu4 : us.length ≤ 4 := (checkU_iff.1 (pushE_iff.1 HP.out.1).2.2).2.1
  have hu1 : 0 < us.length := (checkU_iff.1 (pushE_iff.1 HP.out.1).2.2).1
  obtain ⟨y0, y1, y2⟩ := c3_of hk23
  obtain ⟨r0, r1, r2, r3, r4, r5, r6⟩ := c7_of hk13
  have htr := try_any aS cs s al cl l g ph a1 n1 c1 a2 n2 c2 f0 am cm m au cu us f w3 (hg.below hB3) (hs.below hB3) hsl (hl.below hB3) hll (hm.below hB3) hml (hu.below hB3) hul
  -- the two ways
  obtain ⟨T, hT⟩ : ∃ T, T = voteS s l g m us f := ⟨_, rfl⟩
  rw [← hT]
  have HT : Hid (T = voteS s l g m us f) := hT
  clear hT
  go_wp2_with fail
  refine htr.mono ?_
  clear htr
  rintro e w4 ⟨hb4, hpost⟩
  have hB4 := hB3.trans (hb4.mono hB3.size)
  have hk14 := (hb4.block _ (heap_lt hk13)).trans hk13
  have hk24 := (hb4.block _ (heap_lt hk23)).trans hk23
  clear hb4 hB3 hk13 hk23 y0 y1 y2 r0 r1 r2 r3 r4 r5 r6
  obtain ⟨b, off, rfl, hbu, hcu⟩ := hu 0 hu1
  obtain rfl : e = .returned (.tuple #[.slice none 0 0, .slice none 0 0, .int .i64 (tryE s l m us f)]) := by
    rcases hpost with ⟨_, q⟩ | ⟨q, _⟩
    · exact q
    · exact absurd q HTr.out
  clear hpost
  have hne := HTr.out
  have hsz : T.size = 4 := by rw [HT.out]; exact vote_no HV.out hne
  have hle : ¬ (4 : Int) < (T.size : Int) := by omega
  have z1 : (tryE s l m us f == 0) = false := by simpa using hne
  have z2 : (tryE s l m us f != 0) = true := by simpa using hne
  go_upto_region 9 with fail
  go_cut [12] from 50 to 58 (fun s12 wx => ∃ q gq cap cur, s12 = .pointer (some ⟨q, 0, none⟩) ∧ Qu w4 wx am m.length cm f us q gq cap cur)
  case first =>
    have hdr := (Below.refl w4.heap.size w4).drew
    have hS0 : w4.drew.cell? ⟨w.heap.size + 1, 0, none⟩ = some (.slice am m.length cm) ∧ w4.drew.cell? ⟨w.heap.size + 1, 1, none⟩ = some (.slice (some ⟨b, off, none⟩) us.length cu) ∧ w4.drew.cell? ⟨w.heap.size + 1, 2, none⟩ = some (.bool f) := c3_of hk24
    have hU0 : ∀ k (hk : k < us.length), UpAt w4.drew b (off + k * 3) us[k] := fun k hk => ⟨cell_keep (hB4.trans (hdr.mono hB4.size)) hbu (hcu k hk).1, cell_keep (hB4.trans (hdr.mono hB4.size)) hbu (hcu k hk).2.1, cell_keep (hB4.trans (hdr.mono hB4.size)) hbu (hcu k hk).2.2⟩
    have hbW : b < w4.drew.heap.size := Nat.lt_of_lt_of_le hbu (hB4.trans (hdr.mono hB4.size)).size
    have hpW : w.heap.size + 1 < w4.drew.heap.size := heap_lt hk24
    refine wp_region_E (fun W => W.cell? ⟨w.heap.size + 1, 0, none⟩ = some (.slice am m.length cm) ∧ W.cell? ⟨w.heap.size + 1, 1, none⟩ = some (.slice (some ⟨b, off, none⟩) us.length cu) ∧ W.cell? ⟨w.heap.size + 1, 2, none⟩ = some (.bool f)) (fun _ => false) (by kernel_rfl) hS0 (fun hS => ?_)
    generalize w4.drew = W0 at *
    refine wpAnyE.take (i := 0) (v := ?_) rfl (by kernel_rfl) (by kernel_rfl) (by kernel_rfl) (by kernel_rfl) (fun _ _ _ h => h) (Or.inl ⟨by rfl, ?_⟩) (by assumption) ?_
    rotate_left
    · intro w hSw; obtain ⟨z0, z1, z2⟩ := hSw; go_simp; with_reducible rfl
    try simp only [Act.put, List.getElem_toArray, List.getElem_cons_zero, List.setIfInBounds_toArray, List.set_cons_zero, List.set_cons_succ]
    refine wpAnyE.take (i := 1) (v := ?_) rfl (by kernel_rfl) (by kernel_rfl) (by kernel_rfl) (by kernel_rfl) (fun _ _ _ h => h) (Or.inl ⟨by rfl, ?_⟩) (by assumption) ?_
    rotate_left
    · intro w hSw; obtain ⟨z0, z1, z2⟩ := hSw; go_simp; with_reducible rfl
    try simp only [Act.put, List.getElem_toArray, List.getElem_cons_succ, List.getElem_cons_zero, List.setIfInBounds_toArray, List.set_cons_zero, List.set_cons_succ]
    refine wpAnyE.take (i := 3) (v := ?_) rfl (by kernel_rfl) (by kernel_rfl) (by kernel_rfl) (by kernel_rfl) (fun _ _ _ h => h) (Or.inl ⟨by rfl, ?_⟩) (by assumption) ?_
    rotate_left
    · intro w hSw; obtain ⟨z0, z1, z2⟩ := hSw; go_simp; with_reducible rfl
    try simp only [Act.put, List.getElem_toArray, List.getElem_cons_succ, List.getElem_cons_zero, List.setIfInBounds_toArray, List.set_cons_zero, List.set_cons_succ]
    refine wpAnyE.take (i := 4) (v := ?_) rfl (by kernel_rfl) (by kernel_rfl) (by kernel_rfl) (by kernel_rfl) (fun _ _ _ h => h) (Or.inl ⟨by rfl, ?_⟩) (by assumption) ?_
    rotate_left
    · intro w hSw; obtain ⟨z0, z1, z2⟩ := hSw; go_simp; with_reducible rfl
    try simp only [Act.put, List.getElem_toArray, List.getElem_cons_succ, List.getElem_cons_zero, List.setIfInBounds_toArray, List.set_cons_zero, List.set_cons_succ]
    refine wpAnyE.take (i := 6) (v := ?_) rfl (by kernel_rfl) (by kernel_rfl) (by kernel_rfl) (by kernel_rfl) (fun _ _ _ h => h) (Or.inl ⟨by rfl, ?_⟩) (by assumption) ?_
    rotate_left
    · intro w hSw; obtain ⟨z0, z1, z2⟩ := hSw; go_simp; with_reducible rfl
    try simp only [Act.put, List.getElem_toArray, List.getElem_cons_succ, List.getElem_cons_zero, List.setIfInBounds_toArray, List.set_cons_zero, List.set_cons_succ]
    refine wpAnyE.take (i := 7) (v := ?_) rfl (by kernel_rfl) (by kernel_rfl) (by kernel_rfl) (by kernel_rfl) (fun _ _ _ h => h) (Or.inl ⟨by rfl, ?_⟩) (by assumption) ?_
    rotate_left
    · intro w hSw; obtain ⟨z0, z1, z2⟩ := hSw; go_simp; with_reducible rfl
    try simp only [Act.put, List.getElem_toArray, List.getElem_cons_succ, List.getElem_cons_zero, List.setIfInBounds_toArray, List.set_cons_zero, List.set_cons_succ]
    refine wpAnyE.two (i := 2) (j := 9) (by kernel_rfl) rfl rfl (fun K hK => ?_) (fun K hK => ?_)
    · go_simp
      obtain ⟨W1, hW1⟩ : ∃ W1, W1 = W0.alloc (.cells #[] 45) := ⟨_, rfl⟩
      have hb1 : Below W0.heap.size W0 W1 := by rw [hW1]; exact below_alloc _ _
      have kW1 : W1.heap[W0.heap.size]? = some (.cells #[] 45) := by rw [hW1]; exact heap_alloc_new W0 _
      have sW1 : W0.heap.size < W1.heap.size := by rw [hW1]; simp
      rw [← hW1]
      clear hW1
      have hSn : W1.cell? ⟨w.heap.size + 1, 0, none⟩ = some (.slice am m.length cm) ∧ W1.cell? ⟨w.heap.size + 1, 1, none⟩ = some (.slice (some ⟨b, off, none⟩) us.length cu) ∧ W1.cell? ⟨w.heap.size + 1, 2, none⟩ = some (.bool f) := ⟨cell_keep hb1 (by omega) hS0.1, cell_keep hb1 (by omega) hS0.2.1, cell_keep hb1 (by omega) hS0.2.2⟩
      have hUn : ∀ k (hk : k < us.length), UpAt W1 b (off + k * 3) us[k] := fun k hk => ⟨cell_keep hb1 (by omega) (hU0 k hk).1, cell_keep hb1 (by omega) (hU0 k hk).2.1, cell_keep hb1 (by omega) (hU0 k hk).2.2⟩
      clear hS0 hU0
      have hS0 := hSn
      have hU0 := hUn
      clear hSn hUn
      refine hK _ _ (fun _ => hS0) ?_
      clear hK K
      try simp only [Act.put, List.getElem_toArray, List.getElem_cons_succ, List.getElem_cons_zero, List.setIfInBounds_toArray, List.set_cons_zero, List.set_cons_succ]
      refine wpAnyE.two (i := 5) (j := 9) (by kernel_rfl) rfl rfl (fun K hK => ?_) (fun K hK => ?_)
      · skip
        obtain ⟨gq, cap, cur, Wa, hra, hca, hga, hka, hta, hsa, hgr⟩ := app_ups W1 24 W0.heap.size b off cu us kW1 hU0 hu4 hu1
        refine step_append_t (by rfl) (.tmp 52) (.tmp 54) (by rfl) _ _ (by rfl) (by rfl) hra ?_
        have hba : Below W0.heap.size W1 Wa := ⟨hgr.os, hgr.tape, hgr.output, hgr.size, fun k hk => hgr.block k (by have := heap_lt kW1; omega) (fun e => by simp at e; omega)⟩
        have hSn : Wa.cell? ⟨w.heap.size + 1, 0, none⟩ = some (.slice am m.length cm) ∧ Wa.cell? ⟨w.heap.size + 1, 1, none⟩ = some (.slice (some ⟨b, off, none⟩) us.length cu) ∧ Wa.cell? ⟨w.heap.size + 1, 2, none⟩ = some (.bool f) := ⟨cell_keep hba (by omega) hS0.1, cell_keep hba (by omega) hS0.2.1, cell_keep hba (by omega) hS0.2.2⟩
        clear hS0 hU0
        have hS0 := hSn
        clear hSn hra
        refine hK _ _ (fun _ => hS0) ?_
        clear hK K
        try simp only [Act.put, List.getElem_toArray, List.getElem_cons_succ, List.getElem_cons_zero, List.setIfInBounds_toArray, List.set_cons_zero, List.set_cons_succ]
        refine wpAnyE.take (i := 8) (v := ?_) rfl (by kernel_rfl) (by kernel_rfl) (by kernel_rfl) (by kernel_rfl) (fun _ _ _ h => h) (Or.inl ⟨by rfl, ?_⟩) (by assumption) ?_
        rotate_left
        · intro w hSw; obtain ⟨z0, z1, z2⟩ := hSw; go_simp; with_reducible rfl
        try simp only [Act.put, List.getElem_toArray, List.getElem_cons_succ, List.getElem_cons_zero, List.setIfInBounds_toArray, List.set_cons_zero, List.set_cons_succ]
        refine wpAnyE.one (i := 9) (by kernel_rfl) rfl (fun K hK => ?_)
        go_simp
        obtain ⟨W3, hW3⟩ : ∃ W3, W3 = Wa.alloc (.cells #[.slice none 0 0, .slice none 0 0, .bool false] 26) := ⟨_, rfl⟩
        have hb3 : Below Wa.heap.size Wa W3 := by rw [hW3]; exact below_alloc _ _
        have kW3 : W3.heap[Wa.heap.size]? = some (.cells #[.slice none 0 0, .slice none 0 0, .bool false] 26) := by rw [hW3]; exact heap_alloc_new Wa _
        have sW3 : Wa.heap.size < W3.heap.size := by rw [hW3]; simp
        rw [← hW3]
        clear hW3
        have hSn : W3.cell? ⟨w.heap.size + 1, 0, none⟩ = some (.slice am m.length cm) ∧ W3.cell? ⟨w.heap.size + 1, 1, none⟩ = some (.slice (some ⟨b, off, none⟩) us.length cu) ∧ W3.cell? ⟨w.heap.size + 1, 2, none⟩ = some (.bool f) := ⟨cell_keep hb3 (by have := hgr.size; omega) hS0.1, cell_keep hb3 (by have := hgr.size; omega) hS0.2.1, cell_keep hb3 (by have := hgr.size; omega) hS0.2.2⟩
        clear hS0
        have hS0 := hSn
        clear hSn
        refine hK _ _ (fun _ => hS0) ?_
        clear hK K
        try simp only [Act.put, List.getElem_toArray, List.getElem_cons_succ, List.getElem_cons_zero, List.setIfInBounds_toArray, List.set_cons_zero, List.set_cons_succ]
        refine wpAnyE.one (i := 10) (by kernel_rfl) rfl (fun K hK => ?_)
        obtain ⟨cq0, cq1, cq2⟩ := c3_of kW3
        have fq0 := f_of (o := 0) kW3
        have fq1 := f_of (o := 1) kW3
        have fq2 := f_of (o := 2) kW3
        have hset := set3_block W3 Wa.heap.size (.slice am m.length cm) (.slice (some ⟨gq, 0, none⟩) us.length cap) (.bool f) kW3
        go_simp
        obtain ⟨Wf, hWf⟩ : ∃ Wf, Wf = (((W3.setCell ⟨Wa.heap.size, 0, none⟩ (.slice am m.length cm)).setCell ⟨Wa.heap.size, 1, none⟩ (.slice (some ⟨gq, 0, none⟩) us.length cap)).setCell ⟨Wa.heap.size, 2, none⟩ (.bool f)) := ⟨_, rfl⟩
        rw [← hWf] at hset ⊢
        have HQ : Qu w4 Wf am m.length cm f us Wa.heap.size gq cap cur := ⟨((hdr.trans (hb1.mono (by have := hdr.size; omega))).trans (hba.mono (by have := hdr.size; omega))).trans ((hb3.trans (hset.2.1.mono (by omega))).mono (by have := hdr.size; have := hgr.size; omega)), hset.1, (hset.2.2 _ (by have := heap_lt hka; omega)).trans ((hb3.block _ (heap_lt hka)).trans hka), hta, hsa, hca, by have := hdr.size; have := hgr.size; omega, by have := hdr.size; omega, by have := heap_lt hka; omega⟩
        have hSf : Wf.cell? ⟨w.heap.size + 1, 0, none⟩ = some (.slice am m.length cm) ∧ Wf.cell? ⟨w.heap.size + 1, 1, none⟩ = some (.slice (some ⟨b, off, none⟩) us.length cu) ∧ Wf.cell? ⟨w.heap.size + 1, 2, none⟩ = some (.bool f) := ⟨far_keep hset.2.2 (by have := hgr.size; omega) hS0.1, far_keep hset.2.2 (by have := hgr.size; omega) hS0.2.1, far_keep hset.2.2 (by have := hgr.size; omega) hS0.2.2⟩
        refine hK _ _ (fun _ => hSf) ?_
        clear hK K
        try simp only [Act.put, List.getElem_toArray, List.getElem_cons_succ, List.getElem_cons_zero, List.setIfInBounds_toArray, List.set_cons_zero, List.set_cons_succ]
        refine wpAnyE.done (by kernel_rfl) ?_
        go_wp2_with fail
        go_meet
        exact ⟨_, _, _, _, rfl, HQ⟩
      · go_simp
        obtain ⟨W2, hW2⟩ : ∃ W2, W2 = W1.alloc (.cells #[.slice none 0 0, .slice none 0 0, .bool false] 26) := ⟨_, rfl⟩
        have hb2 : Below W1.heap.size W1 W2 := by rw [hW2]; exact below_alloc _ _
        have kW2 : W2.heap[W1.heap.size]? = some (.cells #[.slice none 0 0, .slice none 0 0, .bool false] 26) := by rw [hW2]; exact heap_alloc_new W1 _
        have sW2 : W1.heap.size < W2.heap.size := by rw [hW2]; simp
        rw [← hW2]
        clear hW2
        have hSn : W2.cell? ⟨w.heap.size + 1, 0, none⟩ = some (.slice am m.length cm) ∧ W2.cell? ⟨w.heap.size + 1, 1, none⟩ = some (.slice (some ⟨b, off, none⟩) us.length cu) ∧ W2.cell? ⟨w.heap.size + 1, 2, none⟩ = some (.bool f) := ⟨cell_keep hb2 (by omega) hS0.1, cell_keep hb2 (by omega) hS0.2.1, cell_keep hb2 (by omega) hS0.2.2⟩
        have hUn : ∀ k (hk : k < us.length), UpAt W2 b (off + k * 3) us[k] := fun k hk => ⟨cell_keep hb2 (by omega) (hU0 k hk).1, cell_keep hb2 (by omega) (hU0 k hk).2.1, cell_keep hb2 (by omega) (hU0 k hk).2.2⟩
        clear hS0 hU0
        have hS0 := hSn
        have hU0 := hUn
        clear hSn hUn
        have kz := (hb2.block _ (heap_lt kW1)).trans kW1
        refine hK _ _ (fun _ => hS0) ?_
        clear hK K
        try simp only [Act.put, List.getElem_toArray, List.getElem_cons_succ, List.getElem_cons_zero, List.setIfInBounds_toArray, List.set_cons_zero, List.set_cons_succ]
        refine wpAnyE.one (i := 5) (by kernel_rfl) rfl (fun K hK => ?_)
        obtain ⟨gq, cap, cur, Wa, hra, hca, hga, hka, hta, hsa, hgr⟩ := app_ups W2 24 W0.heap.size b off cu us kz hU0 hu4 hu1
        refine step_append_t (by rfl) (.tmp 52) (.tmp 54) (by rfl) _ _ (by rfl) (by rfl) hra ?_
        have hba : Below W0.heap.size W2 Wa := ⟨hgr.os, hgr.tape, hgr.output, hgr.size, fun k hk => hgr.block k (by have := heap_lt kz; omega) (fun e => by simp at e; omega)⟩
        have hSn : Wa.cell? ⟨w.heap.size + 1, 0, none⟩ = some (.slice am m.length cm) ∧ Wa.cell? ⟨w.heap.size + 1, 1, none⟩ = some (.slice (some ⟨b, off, none⟩) us.length cu) ∧ Wa.cell? ⟨w.heap.size + 1, 2, none⟩ = some (.bool f) := ⟨cell_keep hba (by omega) hS0.1, cell_keep hba (by omega) hS0.2.1, cell_keep hba (by omega) hS0.2.2⟩
        clear hS0 hU0
        have hS0 := hSn
        clear hSn hra
        have kq := (hgr.block W1.heap.size (heap_lt kW2) (fun e => by simp at e; omega)).trans kW2
        refine hK _ _ (fun _ => hS0) ?_
        clear hK K
        try simp only [Act.put, List.getElem_toArray, List.getElem_cons_succ, List.getElem_cons_zero, List.setIfInBounds_toArray, List.set_cons_zero, List.set_cons_succ]
        refine wpAnyE.take (i := 8) (v := ?_) rfl (by kernel_rfl) (by kernel_rfl) (by kernel_rfl) (by kernel_rfl) (fun _ _ _ h => h) (Or.inl ⟨by rfl, ?_⟩) (by assumption) ?_
        rotate_left
        · intro w hSw; obtain ⟨z0, z1, z2⟩ := hSw; go_simp; with_reducible rfl
        try simp only [Act.put, List.getElem_toArray, List.getElem_cons_succ, List.getElem_cons_zero, List.setIfInBounds_toArray, List.set_cons_zero, List.set_cons_succ]
        refine wpAnyE.one (i := 10) (by kernel_rfl) rfl (fun K hK => ?_)
        obtain ⟨cq0, cq1, cq2⟩ := c3_of kq
        have fq0 := f_of (o := 0) kq
        have fq1 := f_of (o := 1) kq
        have fq2 := f_of (o := 2) kq
        have hset := set3_block Wa W1.heap.size (.slice am m.length cm) (.slice (some ⟨gq, 0, none⟩) us.length cap) (.bool f) kq
        go_simp
        obtain ⟨Wf, hWf⟩ : ∃ Wf, Wf = (((Wa.setCell ⟨W1.heap.size, 0, none⟩ (.slice am m.length cm)).setCell ⟨W1.heap.size, 1, none⟩ (.slice (some ⟨gq, 0, none⟩) us.length cap)).setCell ⟨W1.heap.size, 2, none⟩ (.bool f)) := ⟨_, rfl⟩
        rw [← hWf] at hset ⊢
        have HQ : Qu w4 Wf am m.length cm f us W1.heap.size gq cap cur := ⟨(((hdr.trans (hb1.mono (by have := hdr.size; omega))).trans (hb2.mono (by have := hdr.size; omega))).trans (hba.mono (by have := hdr.size; omega))).trans (hset.2.1.mono (by have := hdr.size; omega)), hset.1, (hset.2.2 _ (by omega)).trans hka, hta, hsa, hca, by have := hdr.size; omega, by have := hdr.size; omega, by omega⟩
        have hSf : Wf.cell? ⟨w.heap.size + 1, 0, none⟩ = some (.slice am m.length cm) ∧ Wf.cell? ⟨w.heap.size + 1, 1, none⟩ = some (.slice (some ⟨b, off, none⟩) us.length cu) ∧ Wf.cell? ⟨w.heap.size + 1, 2, none⟩ = some (.bool f) := ⟨far_keep hset.2.2 (by have := hgr.size; omega) hS0.1, far_keep hset.2.2 (by have := hgr.size; omega) hS0.2.1, far_keep hset.2.2 (by have := hgr.size; omega) hS0.2.2⟩
        refine hK _ _ (fun _ => hSf) ?_
        clear hK K
        try simp only [Act.put, List.getElem_toArray, List.getElem_cons_succ, List.getElem_cons_zero, List.setIfInBounds_toArray, List.set_cons_zero, List.set_cons_succ]
        refine wpAnyE.done (by kernel_rfl) ?_
        go_wp2_with fail
        go_meet
        exact ⟨_, _, _, _, rfl, HQ⟩
    · go_simp
      obtain ⟨W1, hW1⟩ : ∃ W1, W1 = W0.alloc (.cells #[.slice none 0 0, .slice none 0 0, .bool false] 26) := ⟨_, rfl⟩
      have hb1 : Below W0.heap.size W0 W1 := by rw [hW1]; exact below_alloc _ _
      have kW1 : W1.heap[W0.heap.size]? = some (.cells #[.slice none 0 0, .slice none 0 0, .bool false] 26) := by rw [hW1]; exact heap_alloc_new W0 _
      have sW1 : W0.heap.size < W1.heap.size := by rw [hW1]; simp
      rw [← hW1]
      clear hW1
      have hSn : W1.cell? ⟨w.heap.size + 1, 0, none⟩ = some (.slice am m.length cm) ∧ W1.cell? ⟨w.heap.size + 1, 1, none⟩ = some (.slice (some ⟨b, off, none⟩) us.length cu) ∧ W1.cell? ⟨w.heap.size + 1, 2, none⟩ = some (.bool f) := ⟨cell_keep hb1 (by omega) hS0.1, cell_keep hb1 (by omega) hS0.2.1, cell_keep hb1 (by omega) hS0.2.2⟩
      have hUn : ∀ k (hk : k < us.length), UpAt W1 b (off + k * 3) us[k] := fun k hk => ⟨cell_keep hb1 (by omega) (hU0 k hk).1, cell_keep hb1 (by omega) (hU0 k hk).2.1, cell_keep hb1 (by omega) (hU0 k hk).2.2⟩
      clear hS0 hU0
      have hS0 := hSn
      have hU0 := hUn
      clear hSn hUn
      refine hK _ _ (fun _ => hS0) ?_
      clear hK K
      try simp only [Act.put, List.getElem_toArray, List.getElem_cons_succ, List.getElem_cons_zero, List.setIfInBounds_toArray, List.set_cons_zero, List.set_cons_succ]
      refine wpAnyE.one (i := 2) (by kernel_rfl) rfl (fun K hK => ?_)
      go_simp
      obtain ⟨W2, hW2⟩ : ∃ W2, W2 = W1.alloc (.cells #[] 45) := ⟨_, rfl⟩
      have hb2 : Below W1.heap.size W1 W2 := by rw [hW2]; exact below_alloc _ _
      have kW2 : W2.heap[W1.heap.size]? = some (.cells #[] 45) := by rw [hW2]; exact heap_alloc_new W1 _
      have sW2 : W1.heap.size < W2.heap.size := by rw [hW2]; simp
      rw [← hW2]
      clear hW2
      have hSn : W2.cell? ⟨w.heap.size + 1, 0, none⟩ = some (.slice am m.length cm) ∧ W2.cell? ⟨w.heap.size + 1, 1, none⟩ = some (.slice (some ⟨b, off, none⟩) us.length cu) ∧ W2.cell? ⟨w.heap.size + 1, 2, none⟩ = some (.bool f) := ⟨cell_keep hb2 (by omega) hS0.1, cell_keep hb2 (by omega) hS0.2.1, cell_keep hb2 (by omega) hS0.2.2⟩
      have hUn : ∀ k (hk : k < us.length), UpAt W2 b (off + k * 3) us[k] := fun k hk => ⟨cell_keep hb2 (by omega) (hU0 k hk).1, cell_keep hb2 (by omega) (hU0 k hk).2.1, cell_keep hb2 (by omega) (hU0 k hk).2.2⟩
      clear hS0 hU0
      have hS0 := hSn
      have hU0 := hUn
      clear hSn hUn
      have kz := (hb2.block _ (heap_lt kW1)).trans kW1
      refine hK _ _ (fun _ => hS0) ?_
      clear hK K
      try simp only [Act.put, List.getElem_toArray, List.getElem_cons_succ, List.getElem_cons_zero, List.setIfInBounds_toArray, List.set_cons_zero, List.set_cons_succ]
      refine wpAnyE.one (i := 5) (by kernel_rfl) rfl (fun K hK => ?_)
      obtain ⟨gq, cap, cur, Wa, hra, hca, hga, hka, hta, hsa, hgr⟩ := app_ups W2 24 W1.heap.size b off cu us kW2 hU0 hu4 hu1
      refine step_append_t (by rfl) (.tmp 52) (.tmp 54) (by rfl) _ _ (by rfl) (by rfl) hra ?_
      have hba : Below W1.heap.size W2 Wa := ⟨hgr.os, hgr.tape, hgr.output, hgr.size, fun k hk => hgr.block k (by have := heap_lt kW2; omega) (fun e => by simp at e; omega)⟩
      have hSn : Wa.cell? ⟨w.heap.size + 1, 0, none⟩ = some (.slice am m.length cm) ∧ Wa.cell? ⟨w.heap.size + 1, 1, none⟩ = some (.slice (some ⟨b, off, none⟩) us.length cu) ∧ Wa.cell? ⟨w.heap.size + 1, 2, none⟩ = some (.bool f) := ⟨cell_keep hba (by omega) hS0.1, cell_keep hba (by omega) hS0.2.1, cell_keep hba (by omega) hS0.2.2⟩
      clear hS0 hU0
      have hS0 := hSn
      clear hSn hra
      have kq := (hgr.block W0.heap.size (heap_lt kz) (fun e => by simp at e; omega)).trans kz
      refine hK _ _ (fun _ => hS0) ?_
      clear hK K
      try simp only [Act.put, List.getElem_toArray, List.getElem_cons_succ, List.getElem_cons_zero, List.setIfInBounds_toArray, List.set_cons_zero, List.set_cons_succ]
      refine wpAnyE.take (i := 8) (v := ?_) rfl (by kernel_rfl) (by kernel_rfl) (by kernel_rfl) (by kernel_rfl) (fun _ _ _ h => h) (Or.inl ⟨by rfl, ?_⟩) (by assumption) ?_
      rotate_left
      · intro w hSw; obtain ⟨z0, z1, z2⟩ := hSw; go_simp; with_reducible rfl
      try simp only [Act.put, List.getElem_toArray, List.getElem_cons_succ, List.getElem_cons_zero, List.setIfInBounds_toArray, List.set_cons_zero, List.set_cons_succ]
      refine wpAnyE.one (i := 10) (by kernel_rfl) rfl (fun K hK => ?_)
      obtain ⟨cq0, cq1, cq2⟩ := c3_of kq
      have fq0 := f_of (o := 0) kq
      have fq1 := f_of (o := 1) kq
      have fq2 := f_of (o := 2) kq
      have hset := set3_block Wa W0.heap.size (.slice am m.length cm) (.slice (some ⟨gq, 0, none⟩) us.length cap) (.bool f) kq
      go_simp
      obtain ⟨Wf, hWf⟩ : ∃ Wf, Wf = (((Wa.setCell ⟨W0.heap.size, 0, none⟩ (.slice am m.length cm)).setCell ⟨W0.heap.size, 1, none⟩ (.slice (some ⟨gq, 0, none⟩) us.length cap)).setCell ⟨W0.heap.size, 2, none⟩ (.bool f)) := ⟨_, rfl⟩
      rw [← hWf] at hset ⊢
      have HQ : Qu w4 Wf am m.length cm f us W0.heap.size gq cap cur := ⟨(((hdr.trans (hb1.mono (by have := hdr.size; omega))).trans (hb2.mono (by have := hdr.size; omega))).trans (hba.mono (by have := hdr.size; omega))).trans (hset.2.1.mono (by have := hdr.size; omega)), hset.1, (hset.2.2 _ (by omega)).trans hka, hta, hsa, hca, by have := hdr.size; omega, by have := hdr.size; omega, by omega⟩
      have hSf : Wf.cell? ⟨w.heap.size + 1, 0, none⟩ = some (.slice am m.length cm) ∧ Wf.cell? ⟨w.heap.size + 1, 1, none⟩ = some (.slice (some ⟨b, off, none⟩) us.length cu) ∧ Wf.cell? ⟨w.heap.size + 1, 2, none⟩ = some (.bool f) := ⟨far_keep hset.2.2 (by have := hgr.size; omega) hS0.1, far_keep hset.2.2 (by have := hgr.size; omega) hS0.2.1, far_keep hset.2.2 (by have := hgr.size; omega) hS0.2.2⟩
      refine hK _ _ (fun _ => hSf) ?_
      clear hK K
      try simp only [Act.put, List.getElem_toArray, List.getElem_cons_succ, List.getElem_cons_zero, List.setIfInBounds_toArray, List.set_cons_zero, List.set_cons_succ]
      refine wpAnyE.done (by kernel_rfl) ?_
      go_wp2_with fail
      go_meet
      exact ⟨_, _, _, _, rfl, HQ⟩
  case rest =>
    obtain ⟨q, gq, cap, cur, rfl, Q⟩ := hcut
    have hBc := hB4.trans (Q.hb.mono hB4.size)
    have hk1c := (Q.hb.block _ (heap_lt hk14)).trans hk14
    have hqw : w.heap.size < q := Nat.lt_of_lt_of_le (heap_lt hk14) Q.q1
    have hgw : w.heap.size < gq := Nat.lt_of_lt_of_le (heap_lt hk14) Q.g1
    have HCall : Hid (∀ (vs : List Up) (W : World), vs.Perm us → Below w.heap.size w W → HoldsU W (some ⟨gq, 0, none⟩) vs → Calls Tryz.prog 19 #[replV aS s.length cs al l.length cl g ph a1 n1 c1 a2 n2 c2 f0, pushV am m.length cm (some ⟨gq, 0, none⟩) us.length cap f] W fun e w' => e = .returned (.tuple #[.string (voteS s l g m vs f), .int .i64 0]) ∧ Below W.heap.size W w') := fun vs W hp hb hv => by
      have h := of_any aS cs s al cl l g ph a1 n1 c1 a2 n2 c2 f0 am cm m (some ⟨gq, 0, none⟩) cap vs f W (hg.below hb) (ht.below hb) (hs.below hb) hsl (hl.below hb) hll (hm.below hb) hml hv (by rw [hp.length_eq]; exact hul)
      rw [voteE_iff.2 ⟨push_perm hp HP.out.1, HP.out.2⟩, hp.length_eq] at h
      exact h
    have hUc := holdsU_cur Q.hu Q.ht
    have hkq := Q.hq
    have hku := Q.hu
    obtain ⟨rr, hcur⟩ := cur_of Q.ht
    have hgq := Q.ne
    have hcap := Q.hc
    clear Q hk14 hk24 hB4 hs hl hm hcu hu HT HV HP hsz hle hg ht
    obtain ⟨ua, ub, rfl⟩ : ∃ ua ub, us = [ua, ub] := by
      match us, HLn.out with
      | [ua, ub], _ => exact ⟨ua, ub, rfl⟩
    obtain ⟨q0, q1, q2⟩ := c3_of hkq
    simp only [List.length_cons, List.length_nil, Nat.zero_add, Nat.reduceAdd] at *
    have hcu0 := fun j (hj : j < 2) => hcell3 hku hcur j hj
    obtain ⟨e0, e1, e2⟩ := hcu0 0 (by omega)
    obtain ⟨g0, g1, g2⟩ := hcu0 1 (by omega)
    simp only [Nat.zero_add, Nat.zero_mul, Nat.reduceMul, Nat.reduceAdd, List.getElem_cons_zero, List.getElem_cons_succ] at e0 e1 e2 g0 g1 g2
    have fr0 := f_of (o := 0) hku
    have fr1 := f_of (o := 1) hku
    have fr2 := f_of (o := 2) hku
    have fr3 := f_of (o := 3) hku
    have fr4 := f_of (o := 4) hku
    have fr5 := f_of (o := 5) hku
    obtain ⟨kg, hB6, hoth⟩ := six_block wc gq 3 4 5 cur (.string ub.name) (.int .i64 ub.old) (.int .i64 ub.new) (.string ua.name) (.int .i64 ua.old) (.int .i64 ua.new) hku
    have hUs : HoldsU (((((((wc.setCell ⟨gq, 0, none⟩ (.string ub.name)).setCell ⟨gq, 1, none⟩ (.int .i64 ub.old)).setCell ⟨gq, 2, none⟩ (.int .i64 ub.new)).setCell ⟨gq, 3, none⟩ (.string ua.name)).setCell ⟨gq, 4, none⟩ (.int .i64 ua.old)).setCell ⟨gq, 5, none⟩ (.int .i64 ua.new)).drew) (some ⟨gq, 0, none⟩) [ub, ua] := (holdsU_cur (w := ((((((wc.setCell ⟨gq, 0, none⟩ (.string ub.name)).setCell ⟨gq, 1, none⟩ (.int .i64 ub.old)).setCell ⟨gq, 2, none⟩ (.int .i64 ub.new)).setCell ⟨gq, 3, none⟩ (.string ua.name)).setCell ⟨gq, 4, none⟩ (.int .i64 ua.old)).setCell ⟨gq, 5, none⟩ (.int .i64 ua.new))) kg (by rw [hcur]; exact swap_row2 ua ub rr)).below ((Below.refl _ _).drew)
    have hBs : Below w.heap.size w (((((((wc.setCell ⟨gq, 0, none⟩ (.string ub.name)).setCell ⟨gq, 1, none⟩ (.int .i64 ub.old)).setCell ⟨gq, 2, none⟩ (.int .i64 ub.new)).setCell ⟨gq, 3, none⟩ (.string ua.name)).setCell ⟨gq, 4, none⟩ (.int .i64 ua.old)).setCell ⟨gq, 5, none⟩ (.int .i64 ua.new)).drew) := hBc.trans ((hB6.mono (Nat.le_of_lt hgw)).trans ((Below.refl _ _).drew))
    have hkq5 := (hoth q (Ne.symm hgq)).trans hkq
    have hkqs := (((Below.refl ((((((wc.setCell ⟨gq, 0, none⟩ (.string ub.name)).setCell ⟨gq, 1, none⟩ (.int .i64 ub.old)).setCell ⟨gq, 2, none⟩ (.int .i64 ub.new)).setCell ⟨gq, 3, none⟩ (.string ua.name)).setCell ⟨gq, 4, none⟩ (.int .i64 ua.old)).setCell ⟨gq, 5, none⟩ (.int .i64 ua.new)).heap.size ((((((wc.setCell ⟨gq, 0, none⟩ (.string ub.name)).setCell ⟨gq, 1, none⟩ (.int .i64 ub.old)).setCell ⟨gq, 2, none⟩ (.int .i64 ub.new)).setCell ⟨gq, 3, none⟩ (.string ua.name)).setCell ⟨gq, 4, none⟩ (.int .i64 ua.old)).setCell ⟨gq, 5, none⟩ (.int .i64 ua.new))).drew).block q (heap_lt hkq5)).trans hkq5
    have hk15 := (hoth w.heap.size (by omega)).trans hk1c
    have hk1s := (((Below.refl ((((((wc.setCell ⟨gq, 0, none⟩ (.string ub.name)).setCell ⟨gq, 1, none⟩ (.int .i64 ub.old)).setCell ⟨gq, 2, none⟩ (.int .i64 ub.new)).setCell ⟨gq, 3, none⟩ (.string ua.name)).setCell ⟨gq, 4, none⟩ (.int .i64 ua.old)).setCell ⟨gq, 5, none⟩ (.int .i64 ua.new)).heap.size ((((((wc.setCell ⟨gq, 0, none⟩ (.string ub.name)).setCell ⟨gq, 1, none⟩ (.int .i64 ub.old)).setCell ⟨gq, 2, none⟩ (.int .i64 ub.new)).setCell ⟨gq, 3, none⟩ (.string ua.name)).setCell ⟨gq, 4, none⟩ (.int .i64 ua.old)).setCell ⟨gq, 5, none⟩ (.int .i64 ua.new))).drew).block w.heap.size (heap_lt hk15)).trans hk15
    have HP2 : Hid (([ub, ua] : List Up).Perm [ua, ub]) := swapE_perm [ua, ub]
    have HBun : Hid (_ ∧ _ ∧ _ ∧ _) := ⟨hUs, hBs, hkqs, hk1s⟩
    clear hUs hBs hkqs hk1s hkq5 hk15 hoth hB6 kg hcur hcu0 hkq hku hk1c hBc hUc
    go_upto_region 12 with fail
    go_region
    obtain ⟨hUs, hBs, hkqs, hk1s⟩ := HBun.out
    clear HBun
    generalize ((((((wc.setCell ⟨gq, 0, none⟩ (.string ub.name)).setCell ⟨gq, 1, none⟩ (.int .i64 ub.old)).setCell ⟨gq, 2, none⟩ (.int .i64 ub.new)).setCell ⟨gq, 3, none⟩ (.string ua.name)).setCell ⟨gq, 4, none⟩ (.int .i64 ua.old)).setCell ⟨gq, 5, none⟩ (.int .i64 ua.new)).drew = Ws at *
    clear q0 q1 q2 e0 e1 e2 g0 g1 g2 fr0 fr1 fr2 fr3 fr4 fr5
    have hcl := HCall.out [ub, ua] Ws HP2.out hBs hUs
    skip
    obtain ⟨q0, q1, q2⟩ := c3_of hkqs
    obtain ⟨r0, r1, r2, r3, r4, r5, r6⟩ := c7_of hk1s
    go_wp2_with fail
    refine hcl.mono ?_
    clear hcl
    rintro e w6 ⟨rfl, hb6⟩
    have hB7 := hBs.trans (hb6.mono hBs.size)
    clear hb6 q0 q1 q2 r0 r1 r2 r3 r4 r5 r6
    go_wp2
    go_ret
    exact ⟨rfl, hB7⟩
end

section
open Go.RowKit
set_option maxRecDepth 100000

set_option maxHeartbeats 60000000 in
theorem voteSame_no3 (aS : Option Addr) (cs : Nat) (s : List Ob) (al : Option Addr) (cl : Nat) (l : List Rf) (g ph : Int) (a1 : Option Addr) (n1 c1 : Nat) (a2 : Option Addr) (n2 c2 : Nat) (f0 : Bool) (am : Option Addr) (cm : Nat) (m : List Ob) (au : Option Addr) (cu : Nat) (us : List Up) (f : Bool) (w : World) (hg : Glob w) (ht : Tab w)
    (hs : HoldsS w aS s) (hsl : s.length ≤ 9223372036854775807) (hl : HoldsR w al l) (hll : l.length ≤ 9223372036854775807) (hm : HoldsS w am m) (hml : m.length ≤ 9223372036854775807) (hu : HoldsU w au us) (hul : us.length ≤ 9223372036854775807) (hv : voteE g m us = 0) (hne : tryE s l m us f ≠ 0) (hlen : us.length = 3) :
    Calls Tryz.prog 6 #[replV aS s.length cs al l.length cl g ph a1 n1 c1 a2 n2 c2 f0, pushV am m.length cm au us.length cu f, .bool true] w fun e w' => e = .returned (.bool true) ∧ Below w.heap.size w w' := by
  have HV : Hid (voteE g m us = 0) := hv
  have HTr : Hid (tryE s l m us f ≠ 0) := hne
  have HLn : Hid (us.length = 3) := hlen
  clear hv hlen hne
  have hB := below_alloc2 w (.cells #[.slice aS s.length cs, .slice al l.length cl, .int .i64 g, .int .i64 ph, .slice a1 n1 c1, .slice a2 n2 c2, .bool f0] 28) (.cells #[.slice am m.length cm, .slice au us.length cu, .bool f] 26)
  obtain ⟨hk1, hk2⟩ := two_blocks w (.cells #[.slice aS s.length cs, .slice al l.length cl, .int .i64 g, .int .i64 ph, .slice a1 n1 c1, .slice a2 n2 c2, .bool f0] 28) (.cells #[.slice am m.length cm, .slice au us.length cu, .bool f] 26)
  obtain ⟨y0, y1, y2⟩ := c3_of hk2
  obtain ⟨r0, r1, r2, r3, r4, r5, r6⟩ := c7_of hk1
  have hof := of_any aS cs s al cl l g ph a1 n1 c1 a2 n2 c2 f0 am cm m au cu us f _ (hg.below hB) (ht.below hB) (hs.below hB) hsl (hl.below hB) hll (hm.below hB) hml (hu.below hB) hul
  go_enter Tryz.func6, Tryz.ntmps6
  go_wp2_with fail
  refine hof.mono ?_
  clear hof
  rintro e w1 ⟨rfl, hb1⟩
  have hB1 := hB.trans (hb1.mono hB.size)
  have hk11 := (hb1.block _ (heap_lt hk1)).trans hk1
  have hk21 := (hb1.block _ (heap_lt hk2)).trans hk2
  clear hb1 hB hk1 hk2 y0 y1 y2 r0 r1 r2 r3 r4 r5 r6
  go_wp2_with fail
  refine (voteBegun_any w1 (hg.below hB1) (ht.below hB1)).mono ?_
  rintro e w2 ⟨rfl, hb2⟩
  have hB2 := hB1.trans (hb2.mono hB1.size)
  have hk12 := (hb2.block _ (heap_lt hk11)).trans hk11
  have hk22 := (hb2.block _ (heap_lt hk21)).trans hk21
  clear hb2 hB1 hk11 hk21
  go_wp2_with fail
  refine (pushBegun_any w2 (hg.below hB2)).mono ?_
  rintro e w3 ⟨rfl, hb3⟩
  have hB3 := hB2.trans (hb3.mono hB2.size)
  have hk13 := (hb3.block _ (heap_lt hk12)).trans hk12
  have hk23 := (hb3.block _ (heap_lt hk22)).trans hk22
  clear hb3 hB2 hk12 hk22
  rw [HV.out]
  have HP : Hid (pushE m us = 0 ∧ 0 ≤ g ∧ g ≤ 999) := voteE_iff.1 HV.out
  have hu4 : us.length ≤ 4 := (checkU_iff.1 (pushE_iff.1 HP.out.1).2.2).2.1
  have hu1 : 0 < us.length := (checkU_iff.1 (pushE_iff.1 HP.out.1).2.2).1
  obtain ⟨y0, y1, y2⟩ := c3_of hk23
  obtain ⟨r0, r1, r2, r3, r4, r5, r6⟩ := c7_of hk13
  have htr := try_any aS cs s al cl l g ph a1 n1 c1 a2 n2 c2 f0 am cm m au cu us f w3 (hg.below hB3) (hs.below hB3) hsl (hl.below hB3) hll (hm.below hB3) hml (hu.below hB3) hul
  -- the two ways
  obtain ⟨T, hT⟩ : ∃ T, T = voteS s l g m us f := ⟨_, rfl⟩
  rw [← hT]
  have HT : Hid (T = voteS s l g m us f) := hT
  clear hT
  go_wp2_with fail
  refine htr.mono ?_
  clear htr
  rintro e w4 ⟨hb4, hpost⟩
  have hB4 := hB3.trans (hb4.mono hB3.size)
  have hk14 := (hb4.block _ (heap_lt hk13)).trans hk13
  have hk24 := (hb4.block _ (heap_lt hk23)).trans hk23
  clear hb4 hB3 hk13 hk23 y0 y1 y2 r0 r1 r2 r3 r4 r5 r6
  obtain ⟨b, off, rfl, hbu, hcu⟩ := hu 0 hu1
  obtain rfl : e = .returned (.tuple #[.slice none 0 0, .slice none 0 0, .int .i64 (tryE s l m us f)]) := by
    rcases hpost with ⟨_, q⟩ | ⟨q, _⟩
    · exact q
    · exact absurd q HTr.out
  clear hpost
  have hne := HTr.out
  have hsz : T.size = 4 := by rw [HT.out]; exact vote_no HV.out hne
  have hle : ¬ (4 : Int) < (T.size : Int) := by omega
  have z1 : (tryE s l m us f == 0) = false := by simpa using hne
  have z2 : (tryE s l m us f != 0) = true := by simpa using hne
  go_upto_region 9 with fail
  go_cut [12] from 50 to 58 (fun s12 wx => ∃ q gq cap cur, s12 = .pointer (some ⟨q, 0, none⟩) ∧ Qu w4 wx am m.length cm f us q gq cap cur)
  case first =>
    have hdr := (Below.refl w4.heap.size w4).drew
    have hS0 : w4.drew.cell? ⟨w.heap.size + 1, 0, none⟩ = some (.slice am m.length cm) ∧ w4.drew.cell? ⟨w.heap.size + 1, 1, none⟩ = some (.slice (some ⟨b, off, none⟩) us.length cu) ∧ w4.drew.cell? ⟨w.heap.size + 1, 2, none⟩ = some (.bool f) := c3_of hk24
    have hU0 : ∀ k (hk : k < us.length), UpAt w4.drew b (off + k * 3) us[k] := fun k hk => ⟨cell_keep (hB4.trans (hdr.mono hB4.size)) hbu (hcu k hk).1, cell_keep (hB4.trans (hdr.mono hB4.size)) hbu (hcu k hk).2.1, cell_keep (hB4.trans (hdr.mono hB4.size)) hbu (hcu k hk).2.2⟩
    have hbW : b < w4.drew.heap.size := Nat.lt_of_lt_of_le hbu (hB4.trans (hdr.mono hB4.size)).size
    have hpW : w.heap.size + 1 < w4.drew.heap.size := heap_lt hk24
    refine wp_region_E (fun W => W.cell? ⟨w.heap.size + 1, 0, none⟩ = some (.slice am m.length cm) ∧ W.cell? ⟨w.heap.size + 1, 1, none⟩ = some (.slice (some ⟨b, off, none⟩) us.length cu) ∧ W.cell? ⟨w.heap.size + 1, 2, none⟩ = some (.bool f)) (fun _ => false) (by kernel_rfl) hS0 (fun hS => ?_)
    generalize w4.drew = W0 at *
    refine wpAnyE.take (i := 0) (v := ?_) rfl (by kernel_rfl) (by kernel_rfl) (by kernel_rfl) (by kernel_rfl) (fun _ _ _ h => h) (Or.inl ⟨by rfl, ?_⟩) (by assumption) ?_
    rotate_left
    · intro w hSw; obtain ⟨z0, z1, z2⟩ := hSw; go_simp; with_reducible rfl
    try simp only [Act.put, List.getElem_toArray, List.getElem_cons_zero, List.setIfInBounds_toArray, List.set_cons_zero, List.set_cons_succ]
    refine wpAnyE.take (i := 1) (v := ?_) rfl (by kernel_rfl) (by kernel_rfl) (by kernel_rfl) (by kernel_rfl) (fun _ _ _ h => h) (Or.inl ⟨by rfl, ?_⟩) (by assumption) ?_
    rotate_left
    · intro w hSw; obtain ⟨z0, z1, z2⟩ := hSw; go_simp; with_reducible rfl
    try simp only [Act.put, List.getElem_toArray, List.getElem_cons_succ, List.getElem_cons_zero, List.setIfInBounds_toArray, List.set_cons_zero, List.set_cons_succ]
    refine wpAnyE.take (i := 3) (v := ?_) rfl (by kernel_rfl) (by kernel_rfl) (by kernel_rfl) (by kernel_rfl) (fun _ _ _ h => h) (Or.inl ⟨by rfl, ?_⟩) (by assumption) ?_
    rotate_left
    · intro w hSw; obtain ⟨z0, z1, z2⟩ := hSw; go_simp; with_reducible rfl
    try simp only [Act.put, List.getElem_toArray, List.getElem_cons_succ, List.getElem_cons_zero, List.setIfInBounds_toArray, List.set_cons_zero, List.set_cons_succ]
    refine wpAnyE.take (i := 4) (v := ?_) rfl (by kernel_rfl) (by kernel_rfl) (by kernel_rfl) (by kernel_rfl) (fun _ _ _ h => h) (Or.inl ⟨by rfl, ?_⟩) (by assumption) ?_
    rotate_left
    · intro w hSw; obtain ⟨z0, z1, z2⟩ := hSw; go_simp; with_reducible rfl
    try simp only [Act.put, List.getElem_toArray, List.getElem_cons_succ, List.getElem_cons_zero, List.setIfInBounds_toArray, List.set_cons_zero, List.set_cons_succ]
    refine wpAnyE.take (i := 6) (v := ?_) rfl (by kernel_rfl) (by kernel_rfl) (by kernel_rfl) (by kernel_rfl) (fun _ _ _ h => h) (Or.inl ⟨by rfl, ?_⟩) (by assumption) ?_
    rotate_left
    · intro w hSw; obtain ⟨z0, z1, z2⟩ := hSw; go_simp; with_reducible rfl
    try simp only [Act.put, List.getElem_toArray, List.getElem_cons_succ, List.getElem_cons_zero, List.setIfInBounds_toArray, List.set_cons_zero, List.set_cons_succ]
    refine wpAnyE.take (i := 7) (v := ?_) rfl (by kernel_rfl) (by kernel_rfl) (by kernel_rfl) (by kernel_rfl) (fun _ _ _ h => h) (Or.inl ⟨by rfl, ?_⟩) (by assumption) ?_
    rotate_left
    · intro w hSw; obtain ⟨z0, z1, z2⟩ := hSw; go_simp; with_reducible rfl
    try simp only [Act.put, List.getElem_toArray, List.getElem_cons_succ, List.getElem_cons_zero, List.setIfInBounds_toArray, List.set_cons_zero, List.set_cons_succ]
    refine wpAnyE.two (i := 2) (j := 9) (by kernel_rfl) rfl rfl (fun K hK => ?_) (fun K hK => ?_)
    · go_simp
      obtain ⟨W1, hW1⟩ : ∃ W1, W1 = W0.alloc (.cells #[] 45) := ⟨_, rfl⟩
      have hb1 : Below W0.heap.size W0 W1 := by rw [hW1]; exact below_alloc _ _
      have kW1 : W1.heap[W0.heap.size]? = some (.cells #[] 45) := by rw [hW1]; exact heap_alloc_new W0 _
      have sW1 : W0.heap.size < W1.heap.size := by rw [hW1]; simp
      rw [← hW1]
      clear hW1
      have hSn : W1.cell? ⟨w.heap.size + 1, 0, none⟩ = some (.slice am m.length cm) ∧ W1.cell? ⟨w.heap.size + 1, 1, none⟩ = some (.slice (some ⟨b, off, none⟩) us.length cu) ∧ W1.cell? ⟨w.heap.size + 1, 2, none⟩ = some (.bool f) := ⟨cell_keep hb1 (by omega) hS0.1, cell_keep hb1 (by omega) hS0.2.1, cell_keep hb1 (by omega) hS0.2.2⟩
      have hUn : ∀ k (hk : k < us.length), UpAt W1 b (off + k * 3) us[k] := fun k hk => ⟨cell_keep hb1 (by omega) (hU0 k hk).1, cell_keep hb1 (by omega) (hU0 k hk).2.1, cell_keep hb1 (by omega) (hU0 k hk).2.2⟩
      clear hS0 hU0
      have hS0 := hSn
      have hU0 := hUn
      clear hSn hUn
      refine hK _ _ (fun _ => hS0) ?_
      clear hK K
      try simp only [Act.put, List.getElem_toArray, List.getElem_cons_succ, List.getElem_cons_zero, List.setIfInBounds_toArray, List.set_cons_zero, List.set_cons_succ]
      refine wpAnyE.two (i := 5) (j := 9) (by kernel_rfl) rfl rfl (fun K hK => ?_) (fun K hK => ?_)
      · skip
        obtain ⟨gq, cap, cur, Wa, hra, hca, hga, hka, hta, hsa, hgr⟩ := app_ups W1 24 W0.heap.size b off cu us kW1 hU0 hu4 hu1
        refine step_append_t (by rfl) (.tmp 52) (.tmp 54) (by rfl) _ _ (by rfl) (by rfl) hra ?_
        have hba : Below W0.heap.size W1 Wa := ⟨hgr.os, hgr.tape, hgr.output, hgr.size, fun k hk => hgr.block k (by have := heap_lt kW1; omega) (fun e => by simp at e; omega)⟩
        have hSn : Wa.cell? ⟨w.heap.size + 1, 0, none⟩ = some (.slice am m.length cm) ∧ Wa.cell? ⟨w.heap.size + 1, 1, none⟩ = some (.slice (some ⟨b, off, none⟩) us.length cu) ∧ Wa.cell? ⟨w.heap.size + 1, 2, none⟩ = some (.bool f) := ⟨cell_keep hba (by omega) hS0.1, cell_keep hba (by omega) hS0.2.1, cell_keep hba (by omega) hS0.2.2⟩
        clear hS0 hU0
        have hS0 := hSn
        clear hSn hra
        refine hK _ _ (fun _ => hS0) ?_
        clear hK K
        try simp only [Act.put, List.getElem_toArray, List.getElem_cons_succ, List.getElem_cons_zero, List.setIfInBounds_toArray, List.set_cons_zero, List.set_cons_succ]
        refine wpAnyE.take (i := 8) (v := ?_) rfl (by kernel_rfl) (by kernel_rfl) (by kernel_rfl) (by kernel_rfl) (fun _ _ _ h => h) (Or.inl ⟨by rfl, ?_⟩) (by assumption) ?_
        rotate_left
        · intro w hSw; obtain ⟨z0, z1, z2⟩ := hSw; go_simp; with_reducible rfl
        try simp only [Act.put, List.getElem_toArray, List.getElem_cons_succ, List.getElem_cons_zero, List.setIfInBounds_toArray, List.set_cons_zero, List.set_cons_succ]
        refine wpAnyE.one (i := 9) (by kernel_rfl) rfl (fun K hK => ?_)
        go_simp
        obtain ⟨W3, hW3⟩ : ∃ W3, W3 = Wa.alloc (.cells #[.slice none 0 0, .slice none 0 0, .bool false] 26) := ⟨_, rfl⟩
        have hb3 : Below Wa.heap.size Wa W3 := by rw [hW3]; exact below_alloc _ _
        have kW3 : W3.heap[Wa.heap.size]? = some (.cells #[.slice none 0 0, .slice none 0 0, .bool false] 26) := by rw [hW3]; exact heap_alloc_new Wa _
        have sW3 : Wa.heap.size < W3.heap.size := by rw [hW3]; simp
        rw [← hW3]
        clear hW3
        have hSn : W3.cell? ⟨w.heap.size + 1, 0, none⟩ = some (.slice am m.length cm) ∧ W3.cell? ⟨w.heap.size + 1, 1, none⟩ = some (.slice (some ⟨b, off, none⟩) us.length cu) ∧ W3.cell? ⟨w.heap.size + 1, 2, none⟩ = some (.bool f) := ⟨cell_keep hb3 (by have := hgr.size; omega) hS0.1, cell_keep hb3 (by have := hgr.size; omega) hS0.2.1, cell_keep hb3 (by have := hgr.size; omega) hS0.2.2⟩
        clear hS0
        have hS0 := hSn
        clear hSn
        refine hK _ _ (fun _ => hS0) ?_
        clear hK K
        try simp only [Act.put, List.getElem_toArray, List.getElem_cons_succ, List.getElem_cons_zero, List.setIfInBounds_toArray, List.set_cons_zero, List.set_cons_succ]
        refine wpAnyE.one (i := 10) (by kernel_rfl) rfl (fun K hK => ?_)
        obtain ⟨cq0, cq1, cq2⟩ := c3_of kW3
        have fq0 := f_of (o := 0) kW3
        have fq1 := f_of (o := 1) kW3
        have fq2 := f_of (o := 2) kW3
        have hset := set3_block W3 Wa.heap.size (.slice am m.length cm) (.slice (some ⟨gq, 0, none⟩) us.length cap) (.bool f) kW3
        go_simp
        obtain ⟨Wf, hWf⟩ : ∃ Wf, Wf = (((W3.setCell ⟨Wa.heap.size, 0, none⟩ (.slice am m.length cm)).setCell ⟨Wa.heap.size, 1, none⟩ (.slice (some ⟨gq, 0, none⟩) us.length cap)).setCell ⟨Wa.heap.size, 2, none⟩ (.bool f)) := ⟨_, rfl⟩
        rw [← hWf] at hset ⊢
        have HQ : Qu w4 Wf am m.length cm f us Wa.heap.size gq cap cur := ⟨((hdr.trans (hb1.mono (by have := hdr.size; omega))).trans (hba.mono (by have := hdr.size; omega))).trans ((hb3.trans (hset.2.1.mono (by omega))).mono (by have := hdr.size; have := hgr.size; omega)), hset.1, (hset.2.2 _ (by have := heap_lt hka; omega)).trans ((hb3.block _ (heap_lt hka)).trans hka), hta, hsa, hca, by have := hdr.size; have := hgr.size; omega, by have := hdr.size; omega, by have := heap_lt hka; omega⟩
        have hSf : Wf.cell? ⟨w.heap.size + 1, 0, none⟩ = some (.slice am m.length cm) ∧ Wf.cell? ⟨w.heap.size + 1, 1, none⟩ = some (.slice (some ⟨b, off, none⟩) us.length cu) ∧ Wf.cell? ⟨w.heap.size + 1, 2, none⟩ = some (.bool f) := ⟨far_keep hset.2.2 (by have := hgr.size; omega) hS0.1, far_keep hset.2.2 (by have := hgr.size; omega) hS0.2.1, far_keep hset.2.2 (by have := hgr.size; omega) hS0.2.2⟩
        refine hK _ _ (fun _ => hSf) ?_
        clear hK K
        try simp only [Act.put, List.getElem_toArray, List.getElem_cons_succ, List.getElem_cons_zero, List.setIfInBounds_toArray, List.set_cons_zero, List.set_cons_succ]
        refine wpAnyE.done (by kernel_rfl) ?_
        go_wp2_with fail
        go_meet
        exact ⟨_, _, _, _, rfl, HQ⟩
      · go_simp
        obtain ⟨W2, hW2⟩ : ∃ W2, W2 = W1.alloc (.cells #[.slice none 0 0, .slice none 0 0, .bool false] 26) := ⟨_, rfl⟩
        have hb2 : Below W1.heap.size W1 W2 := by rw [hW2]; exact below_alloc _ _
        have kW2 : W2.heap[W1.heap.size]? = some (.cells #[.slice none 0 0, .slice none 0 0, .bool false] 26) := by rw [hW2]; exact heap_alloc_new W1 _
        have sW2 : W1.heap.size < W2.heap.size := by rw [hW2]; simp
        rw [← hW2]
        clear hW2
        have hSn : W2.cell? ⟨w.heap.size + 1, 0, none⟩ = some (.slice am m.length cm) ∧ W2.cell? ⟨w.heap.size + 1, 1, none⟩ = some (.slice (some ⟨b, off, none⟩) us.length cu) ∧ W2.cell? ⟨w.heap.size + 1, 2, none⟩ = some (.bool f) := ⟨cell_keep hb2 (by omega) hS0.1, cell_keep hb2 (by omega) hS0.2.1, cell_keep hb2 (by omega) hS0.2.2⟩
        have hUn : ∀ k (hk : k < us.length), UpAt W2 b (off + k * 3) us[k] := fun k hk => ⟨cell_keep hb2 (by omega) (hU0 k hk).1, cell_keep hb2 (by omega) (hU0 k hk).2.1, cell_keep hb2 (by omega) (hU0 k hk).2.2⟩
        clear hS0 hU0
        have hS0 := hSn
        have hU0 := hUn
        clear hSn hUn
        have kz := (hb2.block _ (heap_lt kW1)).trans kW1
        refine hK _ _ (fun _ => hS0) ?_
        clear hK K
        try simp only [Act.put, List.getElem_toArray, List.getElem_cons_succ, List.getElem_cons_zero, List.setIfInBounds_toArray, List.set_cons_zero, List.set_cons_succ]
        refine wpAnyE.one (i := 5) (by kernel_rfl) rfl (fun K hK => ?_)
        obtain ⟨gq, cap, cur, Wa, hra, hca, hga, hka, hta, hsa, hgr⟩ := app_ups W2 24 W0.heap.size b off cu us kz hU0 hu4 hu1
        refine step_append_t (by rfl) (.tmp 52) (.tmp 54) (by rfl) _ _ (by rfl) (by rfl) hra ?_
        have hba : Below W0.heap.size W2 Wa := ⟨hgr.os, hgr.tape, hgr.output, hgr.size, fun k hk => hgr.block k (by have := heap_lt kz; omega) (fun e => by simp at e; omega)⟩
        have hSn : Wa.cell? ⟨w.heap.size + 1, 0, none⟩ = some (.slice am m.length cm) ∧ Wa.cell? ⟨w.heap.size + 1, 1, none⟩ = some (.slice (some ⟨b, off, none⟩) us.length cu) ∧ Wa.cell? ⟨w.heap.size + 1, 2, none⟩ = some (.bool f) := ⟨cell_keep hba (by omega) hS0.1, cell_keep hba (by omega) hS0.2.1, cell_keep hba (by omega) hS0.2.2⟩
        clear hS0 hU0
        have hS0 := hSn
        clear hSn hra
        have kq := (hgr.block W1.heap.size (heap_lt kW2) (fun e => by simp at e; omega)).trans kW2
        refine hK _ _ (fun _ => hS0) ?_
        clear hK K
        try simp only [Act.put, List.getElem_toArray, List.getElem_cons_succ, List.getElem_cons_zero, List.setIfInBounds_toArray, List.set_cons_zero, List.set_cons_succ]
        refine wpAnyE.take (i := 8) (v := ?_) rfl (by kernel_rfl) (by kernel_rfl) (by kernel_rfl) (by kernel_rfl) (fun _ _ _ h => h) (Or.inl ⟨by rfl, ?_⟩) (by assumption) ?_
        rotate_left
        · intro w hSw; obtain ⟨z0, z1, z2⟩ := hSw; go_simp; with_reducible rfl
        try simp only [Act.put, List.getElem_toArray, List.getElem_cons_succ, List.getElem_cons_zero, List.setIfInBounds_toArray, List.set_cons_zero, List.set_cons_succ]
        refine wpAnyE.one (i := 10) (by kernel_rfl) rfl (fun K hK => ?_)
        obtain ⟨cq0, cq1, cq2⟩ := c3_of kq
        have fq0 := f_of (o := 0) kq
        have fq1 := f_of (o := 1) kq
        have fq2 := f_of (o := 2) kq
        have hset := set3_block Wa W1.heap.size (.slice am m.length cm) (.slice (some ⟨gq, 0, none⟩) us.length cap) (.bool f) kq
        go_simp
        obtain ⟨Wf, hWf⟩ : ∃ Wf, Wf = (((Wa.setCell ⟨W1.heap.size, 0, none⟩ (.slice am m.length cm)).setCell ⟨W1.heap.size, 1, none⟩ (.slice (some ⟨gq, 0, none⟩) us.length cap)).setCell ⟨W1.heap.size, 2, none⟩ (.bool f)) := ⟨_, rfl⟩
        rw [← hWf] at hset ⊢
        have HQ : Qu w4 Wf am m.length cm f us W1.heap.size gq cap cur := ⟨(((hdr.trans (hb1.mono (by have := hdr.size; omega))).trans (hb2.mono (by have := hdr.size; omega))).trans (hba.mono (by have := hdr.size; omega))).trans (hset.2.1.mono (by have := hdr.size; omega)), hset.1, (hset.2.2 _ (by omega)).trans hka, hta, hsa, hca, by have := hdr.size; omega, by have := hdr.size; omega, by omega⟩
        have hSf : Wf.cell? ⟨w.heap.size + 1, 0, none⟩ = some (.slice am m.length cm) ∧ Wf.cell? ⟨w.heap.size + 1, 1, none⟩ = some (.slice (some ⟨b, off, none⟩) us.length cu) ∧ Wf.cell? ⟨w.heap.size + 1, 2, none⟩ = some (.bool f) := ⟨far_keep hset.2.2 (by have := hgr.size; omega) hS0.1, far_keep hset.2.2 (by have := hgr.size; omega) hS0.2.1, far_keep hset.2.2 (by have := hgr.size; omega) hS0.2.2⟩
        refine hK _ _ (fun _ => hSf) ?_
        clear hK K
        try simp only [Act.put, List.getElem_toArray, List.getElem_cons_succ, List.getElem_cons_zero, List.setIfInBounds_toArray, List.set_cons_zero, List.set_cons_succ]
        refine wpAnyE.done (by kernel_rfl) ?_
        go_wp2_with fail
        go_meet
        exact ⟨_, _, _, _, rfl, HQ⟩
    · go_simp
      obtain ⟨W1, hW1⟩ : ∃ W1, W1 = W0.alloc (.cells #[.slice none 0 0, .slice none 0 0, .bool false] 26) := ⟨_, rfl⟩
      have hb1 : Below W0.heap.size W0 W1 := by rw [hW1]; exact below_alloc _ _
      have kW1 : W1.heap[W0.heap.size]? = some (.cells #[.slice none 0 0, .slice none 0 0, .bool false] 26) := by rw [hW1]; exact heap_alloc_new W0 _
      have sW1 : W0.heap.size < W1.heap.size := by rw [hW1]; simp
      rw [← hW1]
      clear hW1
      have hSn : W1.cell? ⟨w.heap.size + 1, 0, none⟩ = some (.slice am m.length cm) ∧ W1.cell? ⟨w.heap.size + 1, 1, none⟩ = some (.slice (some ⟨b, off, none⟩) us.length cu) ∧ W1.cell? ⟨w.heap.size + 1, 2, none⟩ = some (.bool f) := ⟨cell_keep hb1 (by omega) hS0.1, cell_keep hb1 (by omega) hS0.2.1, cell_keep hb1 (by omega) hS0.2.2⟩
      have hUn : ∀ k (hk : k < us.length), UpAt W1 b (off + k * 3) us[k] := fun k hk => ⟨cell_keep hb1 (by omega) (hU0 k hk).1, cell_keep hb1 (by omega) (hU0 k hk).2.1, cell_keep hb1 (by omega) (hU0 k hk).2.2⟩
      clear hS0 hU0
      have hS0 := hSn
      have hU0 := hUn
      clear hSn hUn
      refine hK _ _ (fun _ => hS0) ?_
      clear hK K
      try simp only [Act.put, List.getElem_toArray, List.getElem_cons_succ, List.getElem_cons_zero, List.setIfInBounds_toArray, List.set_cons_zero, List.set_cons_succ]
      refine wpAnyE.one (i := 2) (by kernel_rfl) rfl (fun K hK => ?_)
      go_simp
      obtain ⟨W2, hW2⟩ : ∃ W2, W2 = W1.alloc (.cells #[] 45) := ⟨_, rfl⟩
      have hb2 : Below W1.heap.size W1 W2 := by rw [hW2]; exact below_alloc _ _
      have kW2 : W2.heap[W1.heap.size]? = some (.cells #[] 45) := by rw [hW2]; exact heap_alloc_new W1 _
      have sW2 : W1.heap.size < W2.heap.size := by rw [hW2]; simp
      rw [← hW2]
      clear hW2
      have hSn : W2.cell? ⟨w.heap.size + 1, 0, none⟩ = some (.slice am m.length cm) ∧ W2.cell? ⟨w.heap.size + 1, 1, none⟩ = some (.slice (some ⟨b, off, none⟩) us.length cu) ∧ W2.cell? ⟨w.heap.size + 1, 2, none⟩ = some (.bool f) := ⟨cell_keep hb2 (by omega) hS0.1, cell_keep hb2 (by omega) hS0.2.1, cell_keep hb2 (by omega) hS0.2.2⟩
      have hUn : ∀ k (hk : k < us.length), UpAt W2 b (off + k * 3) us[k] := fun k hk => ⟨cell_keep hb2 (by omega) (hU0 k hk).1, cell_keep hb2 (by omega) (hU0 k hk).2.1, cell_keep hb2 (by omega) (hU0 k hk).2.2⟩
      clear hS0 hU0
      have hS0 := hSn
      have hU0 := hUn
      clear hSn hUn
      have kz := (hb2.block _ (heap_lt kW1)).trans kW1
      refine hK _ _ (fun _ => hS0) ?_
      clear hK K
      try simp only [Act.put, List.getElem_toArray, List.getElem_cons_succ, List.getElem_cons_zero, List.setIfInBounds_toArray, List.set_cons_zero, List.set_cons_succ]
      refine wpAnyE.one (i := 5) (by kernel_rfl) rfl (fun K hK => ?_)
      obtain ⟨gq, cap, cur, Wa, hra, hca, hga, hka, hta, hsa, hgr⟩ := app_ups W2 24 W1.heap.size b off cu us kW2 hU0 hu4 hu1
      refine step_append_t (by rfl) (.tmp 52) (.tmp 54) (by rfl) _ _ (by rfl) (by rfl) hra ?_
      have hba : Below W1.heap.size W2 Wa := ⟨hgr.os, hgr.tape, hgr.output, hgr.size, fun k hk => hgr.block k (by have := heap_lt kW2; omega) (fun e => by simp at e; omega)⟩
      have hSn : Wa.cell? ⟨w.heap.size + 1, 0, none⟩ = some (.slice am m.length cm) ∧ Wa.cell? ⟨w.heap.size + 1, 1, none⟩ = some (.slice (some ⟨b, off, none⟩) us.length cu) ∧ Wa.cell? ⟨w.heap.size + 1, 2, none⟩ = some (.bool f) := ⟨cell_keep hba (by omega) hS0.1, cell_keep hba (by omega) hS0.2.1, cell_keep hba (by omega) hS0.2.2⟩
      clear hS0 hU0
      have hS0 := hSn
      clear hSn hra
      have kq := (hgr.block W0.heap.size (heap_lt kz) (fun e => by simp at e; omega)).trans kz
      refine hK _ _ (fun _ => hS0) ?_
      clear hK K
      try simp only [Act.put, List.getElem_toArray, List.getElem_cons_succ, List.getElem_cons_zero, List.setIfInBounds_toArray, List.set_cons_zero, List.set_cons_succ]
      refine wpAnyE.take (i := 8) (v := ?_) rfl (by kernel_rfl) (by kernel_rfl) (by kernel_rfl) (by kernel_rfl) (fun _ _ _ h => h) (Or.inl ⟨by rfl, ?_⟩) (by assumption) ?_
      rotate_left
      · intro w hSw; obtain ⟨z0, z1, z2⟩ := hSw; go_simp; with_reducible rfl
      try simp only [Act.put, List.getElem_toArray, List.getElem_cons_succ, List.getElem_cons_zero, List.setIfInBounds_toArray, List.set_cons_zero, List.set_cons_succ]
      refine wpAnyE.one (i := 10) (by kernel_rfl) rfl (fun K hK => ?_)
      obtain ⟨cq0, cq1, cq2⟩ := c3_of kq
      have fq0 := f_of (o := 0) kq
      have fq1 := f_of (o := 1) kq
      have fq2 := f_of (o := 2) kq
      have hset := set3_block Wa W0.heap.size (.slice am m.length cm) (.slice (some ⟨gq, 0, none⟩) us.length cap) (.bool f) kq
      go_simp
      obtain ⟨Wf, hWf⟩ : ∃ Wf, Wf = (((Wa.setCell ⟨W0.heap.size, 0, none⟩ (.slice am m.length cm)).setCell ⟨W0.heap.size, 1, none⟩ (.slice (some ⟨gq, 0, none⟩) us.length cap)).setCell ⟨W0.heap.size, 2, none⟩ (.bool f)) := ⟨_, rfl⟩
      rw [← hWf] at hset ⊢
      have HQ : Qu w4 Wf am m.length cm f us W0.heap.size gq cap cur := ⟨(((hdr.trans (hb1.mono (by have := hdr.size; omega))).trans (hb2.mono (by have := hdr.size; omega))).trans (hba.mono (by have := hdr.size; omega))).trans (hset.2.1.mono (by have := hdr.size; omega)), hset.1, (hset.2.2 _ (by omega)).trans hka, hta, hsa, hca, by have := hdr.size; omega, by have := hdr.size; omega, by omega⟩
      have hSf : Wf.cell? ⟨w.heap.size + 1, 0, none⟩ = some (.slice am m.length cm) ∧ Wf.cell? ⟨w.heap.size + 1, 1, none⟩ = some (.slice (some ⟨b, off, none⟩) us.length cu) ∧ Wf.cell? ⟨w.heap.size + 1, 2, none⟩ = some (.bool f) := ⟨far_keep hset.2.2 (by have := hgr.size; omega) hS0.1, far_keep hset.2.2 (by have := hgr.size; omega) hS0.2.1, far_keep hset.2.2 (by have := hgr.size; omega) hS0.2.2⟩
      refine hK _ _ (fun _ => hSf) ?_
      clear hK K
      try simp only [Act.put, List.getElem_toArray, List.getElem_cons_succ, List.getElem_cons_zero, List.setIfInBounds_toArray, List.set_cons_zero, List.set_cons_succ]
      refine wpAnyE.done (by kernel_rfl) ?_
      go_wp2_with fail
      go_meet
      exact ⟨_, _, _, _, rfl, HQ⟩
  case rest =>
    obtain ⟨q, gq, cap, cur, rfl, Q⟩ := hcut
    have hBc := hB4.trans (Q.hb.mono hB4.size)
    have hk1c := (Q.hb.block _ (heap_lt hk14)).trans hk14
    have hqw : w.heap.size < q := Nat.lt_of_lt_of_le (heap_lt hk14) Q.q1
    have hgw : w.heap.size < gq := Nat.lt_of_lt_of_le (heap_lt hk14) Q.g1
    have HCall : Hid (∀ (vs : List Up) (W : World), vs.Perm us → Below w.heap.size w W → HoldsU W (some ⟨gq, 0, none⟩) vs → Calls Tryz.prog 19 #[replV aS s.length cs al l.length cl g ph a1 n1 c1 a2 n2 c2 f0, pushV am m.length cm (some ⟨gq, 0, none⟩) us.length cap f] W fun e w' => e = .returned (.tuple #[.string (voteS s l g m vs f), .int .i64 0]) ∧ Below W.heap.size W w') := fun vs W hp hb hv => by
      have h := of_any aS cs s al cl l g ph a1 n1 c1 a2 n2 c2 f0 am cm m (some ⟨gq, 0, none⟩) cap vs f W (hg.below hb) (ht.below hb) (hs.below hb) hsl (hl.below hb) hll (hm.below hb) hml hv (by rw [hp.length_eq]; exact hul)
      rw [voteE_iff.2 ⟨push_perm hp HP.out.1, HP.out.2⟩, hp.length_eq] at h
      exact h
    have hUc := holdsU_cur Q.hu Q.ht
    have hkq := Q.hq
    have hku := Q.hu
    obtain ⟨rr, hcur⟩ := cur_of Q.ht
    have hgq := Q.ne
    have hcap := Q.hc
    clear Q hk14 hk24 hB4 hs hl hm hcu hu HT HV HP hsz hle hg ht
    obtain ⟨ua, ub, uc, rfl⟩ : ∃ ua ub uc, us = [ua, ub, uc] := by
      match us, HLn.out with
      | [ua, ub, uc], _ => exact ⟨ua, ub, uc, rfl⟩
    obtain ⟨q0, q1, q2⟩ := c3_of hkq
    simp only [List.length_cons, List.length_nil, Nat.zero_add, Nat.reduceAdd] at *
    have hcu0 := fun j (hj : j < 3) => hcell3 hku hcur j hj
    obtain ⟨e0, e1, e2⟩ := hcu0 0 (by omega)
    obtain ⟨g0, g1, g2⟩ := hcu0 2 (by omega)
    simp only [Nat.zero_add, Nat.zero_mul, Nat.reduceMul, Nat.reduceAdd, List.getElem_cons_zero, List.getElem_cons_succ] at e0 e1 e2 g0 g1 g2
    have fr0 := f_of (o := 0) hku
    have fr1 := f_of (o := 1) hku
    have fr2 := f_of (o := 2) hku
    have fr6 := f_of (o := 6) hku
    have fr7 := f_of (o := 7) hku
    have fr8 := f_of (o := 8) hku
    obtain ⟨kg, hB6, hoth⟩ := six_block wc gq 6 7 8 cur (.string uc.name) (.int .i64 uc.old) (.int .i64 uc.new) (.string ua.name) (.int .i64 ua.old) (.int .i64 ua.new) hku
    have hUs : HoldsU (((((((wc.setCell ⟨gq, 0, none⟩ (.string uc.name)).setCell ⟨gq, 1, none⟩ (.int .i64 uc.old)).setCell ⟨gq, 2, none⟩ (.int .i64 uc.new)).setCell ⟨gq, 6, none⟩ (.string ua.name)).setCell ⟨gq, 7, none⟩ (.int .i64 ua.old)).setCell ⟨gq, 8, none⟩ (.int .i64 ua.new)).drew) (some ⟨gq, 0, none⟩) [uc, ub, ua] := (holdsU_cur (w := ((((((wc.setCell ⟨gq, 0, none⟩ (.string uc.name)).setCell ⟨gq, 1, none⟩ (.int .i64 uc.old)).setCell ⟨gq, 2, none⟩ (.int .i64 uc.new)).setCell ⟨gq, 6, none⟩ (.string ua.name)).setCell ⟨gq, 7, none⟩ (.int .i64 ua.old)).setCell ⟨gq, 8, none⟩ (.int .i64 ua.new))) kg (by rw [hcur]; exact swap_row3 ua ub uc rr)).below ((Below.refl _ _).drew)
    have hBs : Below w.heap.size w (((((((wc.setCell ⟨gq, 0, none⟩ (.string uc.name)).setCell ⟨gq, 1, none⟩ (.int .i64 uc.old)).setCell ⟨gq, 2, none⟩ (.int .i64 uc.new)).setCell ⟨gq, 6, none⟩ (.string ua.name)).setCell ⟨gq, 7, none⟩ (.int .i64 ua.old)).setCell ⟨gq, 8, none⟩ (.int .i64 ua.new)).drew) := hBc.trans ((hB6.mono (Nat.le_of_lt hgw)).trans ((Below.refl _ _).drew))
    have hkq5 := (hoth q (Ne.symm hgq)).trans hkq
    have hkqs := (((Below.refl ((((((wc.setCell ⟨gq, 0, none⟩ (.string uc.name)).setCell ⟨gq, 1, none⟩ (.int .i64 uc.old)).setCell ⟨gq, 2, none⟩ (.int .i64 uc.new)).setCell ⟨gq, 6, none⟩ (.string ua.name)).setCell ⟨gq, 7, none⟩ (.int .i64 ua.old)).setCell ⟨gq, 8, none⟩ (.int .i64 ua.new)).heap.size ((((((wc.setCell ⟨gq, 0, none⟩ (.string uc.name)).setCell ⟨gq, 1, none⟩ (.int .i64 uc.old)).setCell ⟨gq, 2, none⟩ (.int .i64 uc.new)).setCell ⟨gq, 6, none⟩ (.string ua.name)).setCell ⟨gq, 7, none⟩ (.int .i64 ua.old)).setCell ⟨gq, 8, none⟩ (.int .i64 ua.new))).drew).block q (heap_lt hkq5)).trans hkq5
    have hk15 := (hoth w.heap.size (by omega)).trans hk1c
    have hk1s := (((Below.refl ((((((wc.setCell ⟨gq, 0, none⟩ (.string uc.name)).setCell ⟨gq, 1, none⟩ (.int .i64 uc.old)).setCell ⟨gq, 2, none⟩ (.int .i64 uc.new)).setCell ⟨gq, 6, none⟩ (.string ua.name)).setCell ⟨gq, 7, none⟩ (.int .i64 ua.old)).setCell ⟨gq, 8, none⟩ (.int .i64 ua.new)).heap.size ((((((wc.setCell ⟨gq, 0, none⟩ (.string uc.name)).setCell ⟨gq, 1, none⟩ (.int .i64 uc.old)).setCell ⟨gq, 2, none⟩ (.int .i64 uc.new)).setCell ⟨gq, 6, none⟩ (.string ua.name)).setCell ⟨gq, 7, none⟩ (.int .i64 ua.old)).setCell ⟨gq, 8, none⟩ (.int .i64 ua.new))).drew).block w.heap.size (heap_lt hk15)).trans hk15
    have HP2 : Hid (([uc, ub, ua] : List Up).Perm [ua, ub, uc]) := swapE_perm [ua, ub, uc]
    have HBun : Hid (_ ∧ _ ∧ _ ∧ _) := ⟨hUs, hBs, hkqs, hk1s⟩
    clear hUs hBs hkqs hk1s hkq5 hk15 hoth hB6 kg hcur hcu0 hkq hku hk1c hBc hUc
    go_upto_region 12 with fail
    go_region
    obtain ⟨hUs, hBs, hkqs, hk1s⟩ := HBun.out
    clear HBun
    generalize ((((((wc.setCell ⟨gq, 0, none⟩ (.string uc.name)).setCell ⟨gq, 1, none⟩ (.int .i64 uc.old)).setCell ⟨gq, 2, none⟩ (.int .i64 uc.new)).setCell ⟨gq, 6, none⟩ (.string ua.name)).setCell ⟨gq, 7, none⟩ (.int .i64 ua.old)).setCell ⟨gq, 8, none⟩ (.int .i64 ua.new)).drew = Ws at *
    clear q0 q1 q2 e0 e1 e2 g0 g1 g2 fr0 fr1 fr2 fr6 fr7 fr8
    have hcl := HCall.out [uc, ub, ua] Ws HP2.out hBs hUs
    skip
    obtain ⟨q0, q1, q2⟩ := c3_of hkqs
    obtain ⟨r0, r1, r2, r3, r4, r5, r6⟩ := c7_of hk1s
    go_wp2_with fail
    refine hcl.mono ?_
    clear hcl
    rintro e w6 ⟨rfl, hb6⟩
    have hB7 := hBs.trans (hb6.mono hBs.size)
    clear hb6 q0 q1 q2 r0 r1 r2 r3 r4 r5 r6
    go_wp2
    go_ret
    exact ⟨rfl, hB7⟩
end

section
open Go.RowKit
set_option maxRecDepth 100000

set_option maxHeartbeats 60000000 in
theorem voteSame_no4 (aS : Option Addr) (cs : Nat) (s : List Ob) (al : Option Addr) (cl : Nat) (l : List Rf) (g ph : Int) (a1 : Option Addr) (n1 c1 : Nat) (a2 : Option Addr) (n2 c2 : Nat) (f0 : Bool) (am : Option Addr) (cm : Nat) (m : List Ob) (au : Option Addr) (cu : Nat) (us : List Up) (f : Bool) (w : World) (hg : Glob w) (ht : Tab w)
    (hs : HoldsS w aS s) (hsl : s.length ≤ 9223372036854775807) (hl : HoldsR w al l) (hll : l.length ≤ 9223372036854775807) (hm : HoldsS w am m) (hml : m.length ≤ 9223372036854775807) (hu : HoldsU w au us) (hul : us.length ≤ 9223372036854775807) (hv : voteE g m us = 0) (hne : tryE s l m us f ≠ 0) (hlen : us.length = 4) :
    Calls Tryz.prog 6 #[replV aS s.length cs al l.length cl g ph a1 n1 c1 a2 n2 c2 f0, pushV am m.length cm au us.length cu f, .bool true] w fun e w' => e = .returned (.bool true) ∧ Below w.heap.size w w' := by
  have HV : Hid (voteE g m us = 0) := hv
  have HTr : Hid (tryE s l m us f ≠ 0) := hne
  have HLn : Hid (us.length = 4) := hlen
  clear hv hlen hne
  have hB := below_alloc2 w (.cells #[.slice aS s.length cs, .slice al l.length cl, .int .i64 g, .int .i64 ph, .slice a1 n1 c1, .slice a2 n2 c2, .bool f0] 28) (.cells #[.slice am m.length cm, .slice au us.length cu, .bool f] 26)
  obtain ⟨hk1, hk2⟩ := two_blocks w (.cells #[.slice aS s.length cs, .slice al l.length cl, .int .i64 g, .int .i64 ph, .slice a1 n1 c1, .slice a2 n2 c2, .bool f0] 28) (.cells #[.slice am m.length cm, .slice au us.length cu, .bool f] 26)
  obtain ⟨y0, y1, y2⟩ := c3_of hk2
  obtain ⟨r0, r1, r2, r3, r4, r5, r6⟩ := c7_of hk1
  have hof := of_any aS cs s al cl l g ph a1 n1 c1 a2 n2 c2 f0 am cm m au cu us f _ (hg.below hB) (ht.below hB) (hs.below hB) hsl (hl.below hB) hll (hm.below hB) hml (hu.below hB) hul
  go_enter Tryz.func6, Tryz.ntmps6
  go_wp2_with fail
  refine hof.mono ?_
  clear hof
  rintro e w1 ⟨rfl, hb1⟩
  have hB1 := hB.trans (hb1.mono hB.size)
  have hk11 := (hb1.block _ (heap_lt hk1)).trans hk1
  have hk21 := (hb1.block _ (heap_lt hk2)).trans hk2
  clear hb1 hB hk1 hk2 y0 y1 y2 r0 r1 r2 r3 r4 r5 r6
  go_wp2_with fail
  refine (voteBegun_any w1 (hg.below hB1) (ht.below hB1)).mono ?_
  rintro e w2 ⟨rfl, hb2⟩
  have hB2 := hB1.trans (hb2.mono hB1.size)
  have hk12 := (hb2.block _ (heap_lt hk11)).trans hk11
  have hk22 := (hb2.block _ (heap_lt hk21)).trans hk21
  clear hb2 hB1 hk11 hk21
  go_wp2_with fail
  refine (pushBegun_any w2 (hg.below hB2)).mono ?_
  rintro e w3 ⟨rfl, hb3⟩
  have hB3 := hB2.trans (hb3.mono hB2.size)
  have hk13 := (hb3.block _ (heap_lt hk12)).trans hk12
  have hk23 := (hb3.block _ (heap_lt hk22)).trans hk22
  clear hb3 hB2 hk12 hk22
  rw [HV.out]
  have HP : Hid (pushE m us = 0 ∧ 0 ≤ g ∧ g ≤ 999) := voteE_iff.1 HV.out
  have hu4 : us.length ≤ 4 := (checkU_iff.1 (pushE_iff.1 HP.out.1).2.2).2.1
  have hu1 : 0 < us.length := (checkU_iff.1 (pushE_iff.1 HP.out.1).2.2).1
  obtain ⟨y0, y1, y2⟩ := c3_of hk23
  obtain ⟨r0, r1, r2, r3, r4, r5, r6⟩ := c7_of hk13
  have htr := try_any aS cs s al cl l g ph a1 n1 c1 a2 n2 c2 f0 am cm m au cu us f w3 (hg.below hB3) (hs.below hB3) hsl (hl.below hB3) hll (hm.below hB3) hml (hu.below hB3) hul
  -- the two ways
  obtain ⟨T, hT⟩ : ∃ T, T = voteS s l g m us f := ⟨_, rfl⟩
  rw [← hT]
  have HT : Hid (T = voteS s l g m us f) := hT
  clear hT
  go_wp2_with fail
  refine htr.mono ?_
  clear htr
  rintro e w4 ⟨hb4, hpost⟩
  have hB4 := hB3.trans (hb4.mono hB3.size)
  have hk14 := (hb4.block _ (heap_lt hk13)).trans hk13
  have hk24 := (hb4.block _ (heap_lt hk23)).trans hk23
  clear hb4 hB3 hk13 hk23 y0 y1 y2 r0 r1 r2 r3 r4 r5 r6
  obtain ⟨b, off, rfl, hbu, hcu⟩ := hu 0 hu1
  obtain rfl : e = .returned (.tuple #[.slice none 0 0, .slice none 0 0, .int .i64 (tryE s l m us f)]) := by
    rcases hpost with ⟨_, q⟩ | ⟨q, _⟩
    · exact q
    · exact absurd q HTr.out
  clear hpost
  have hne := HTr.out
  have hsz : T.size = 4 := by rw [HT.out]; exact vote_no HV.out hne
  have hle : ¬ (4 : Int) < (T.size : Int) := by omega
  have z1 : (tryE s l m us f == 0) = false := by simpa using hne
  have z2 : (tryE s l m us f != 0) = true := by simpa using hne
  go_upto_region 9 with fail
  go_cut [12] from 50 to 58 (fun s12 wx => ∃ q gq cap cur, s12 = .pointer (some ⟨q, 0, none⟩) ∧ Qu w4 wx am m.length cm f us q gq cap cur)
  case first =>
    have hdr := (Below.refl w4.heap.size w4).drew
    have hS0 : w4.drew.cell? ⟨w.heap.size + 1, 0, none⟩ = some (.slice am m.length cm) ∧ w4.drew.cell? ⟨w.heap.size + 1, 1, none⟩ = some (.slice (some ⟨b, off, none⟩) us.length cu) ∧ w4.drew.cell? ⟨w.heap.size + 1, 2, none⟩ = some (.bool f) := c3_of hk24
    have hU0 : ∀ k (hk : k < us.length), UpAt w4.drew b (off + k * 3) us[k] := fun k hk => ⟨cell_keep (hB4.trans (hdr.mono hB4.size)) hbu (hcu k hk).1, cell_keep (hB4.trans (hdr.mono hB4.size)) hbu (hcu k hk).2.1, cell_keep (hB4.trans (hdr.mono hB4.size)) hbu (hcu k hk).2.2⟩
    have hbW : b < w4.drew.heap.size := Nat.lt_of_lt_of_le hbu (hB4.trans (hdr.mono hB4.size)).size
    have hpW : w.heap.size + 1 < w4.drew.heap.size := heap_lt hk24
    refine wp_region_E (fun W => W.cell? ⟨w.heap.size + 1, 0, none⟩ = some (.slice am m.length cm) ∧ W.cell? ⟨w.heap.size + 1, 1, none⟩ = some (.slice (some ⟨b, off, none⟩) us.length cu) ∧ W.cell? ⟨w.heap.size + 1, 2, none⟩ = some (.bool f)) (fun _ => false) (by kernel_rfl) hS0 (fun hS => ?_)
    generalize w4.drew = W0 at *
    refine wpAnyE.take (i := 0) (v := ?_) rfl (by kernel_rfl) (by kernel_rfl) (by kernel_rfl) (by kernel_rfl) (fun _ _ _ h => h) (Or.inl ⟨by rfl, ?_⟩) (by assumption) ?_
    rotate_left
    · intro w hSw; obtain ⟨z0, z1, z2⟩ := hSw; go_simp; with_reducible rfl
    try simp only [Act.put, List.getElem_toArray, List.getElem_cons_zero, List.setIfInBounds_toArray, List.set_cons_zero, List.set_cons_succ]
    refine wpAnyE.take (i := 1) (v := ?_) rfl (by kernel_rfl) (by kernel_rfl) (by kernel_rfl) (by kernel_rfl) (fun _ _ _ h => h) (Or.inl ⟨by rfl, ?_⟩) (by assumption) ?_
    rotate_left
    · intro w hSw; obtain ⟨z0, z1, z2⟩ := hSw; go_simp; with_reducible rfl
    try simp only [Act.put, List.getElem_toArray, List.getElem_cons_succ, List.getElem_cons_zero, List.setIfInBounds_toArray, List.set_cons_zero, List.set_cons_succ]
    refine wpAnyE.take (i := 3) (v := ?_) rfl (by kernel_rfl) (by kernel_rfl) (by kernel_rfl) (by kernel_rfl) (fun _ _ _ h => h) (Or.inl ⟨by rfl, ?_⟩) (by assumption) ?_
    rotate_left
    · intro w hSw; obtain ⟨z0, z1, z2⟩ := hSw; go_simp; with_reducible rfl
    try simp only [Act.put, List.getElem_toArray, List.getElem_cons_succ, List.getElem_cons_zero, List.setIfInBounds_toArray, List.set_cons_zero, List.set_cons_succ]
    refine wpAnyE.take (i := 4) (v := ?_) rfl (by kernel_rfl) (by kernel_rfl) (by kernel_rfl) (by kernel_rfl) (fun _ _ _ h => h) (Or.inl ⟨by rfl, ?_⟩) (by assumption) ?_
    rotate_left
    · intro w hSw; obtain ⟨z0, z1, z2⟩ := hSw; go_simp; with_reducible rfl
    try simp only [Act.put, List.getElem_toArray, List.getElem_cons_succ, List.getElem_cons_zero, List.setIfInBounds_toArray, List.set_cons_zero, List.set_cons_succ]
    refine wpAnyE.take (i := 6) (v := ?_) rfl (by kernel_rfl) (by kernel_rfl) (by kernel_rfl) (by kernel_rfl) (fun _ _ _ h => h) (Or.inl ⟨by rfl, ?_⟩) (by assumption) ?_
    rotate_left
    · intro w hSw; obtain ⟨z0, z1, z2⟩ := hSw; go_simp; with_reducible rfl
    try simp only [Act.put, List.getElem_toArray, List.getElem_cons_succ, List.getElem_cons_zero, List.setIfInBounds_toArray, List.set_cons_zero, List.set_cons_succ]
    refine wpAnyE.take (i := 7) (v := ?_) rfl (by kernel_rfl) (by kernel_rfl) (by kernel_rfl) (by kernel_rfl) (fun _ _ _ h => h) (Or.inl ⟨by rfl, ?_⟩) (by assumption) ?_
    rotate_left
    · intro w hSw; obtain ⟨z0, z1, z2⟩ := hSw; go_simp; with_reducible rfl
    try simp only [Act.put, List.getElem_toArray, List.getElem_cons_succ, List.getElem_cons_zero, List.setIfInBounds_toArray, List.set_cons_zero, List.set_cons_succ]
    refine wpAnyE.two (i := 2) (j := 9) (by kernel_rfl) rfl rfl (fun K hK => ?_) (fun K hK => ?_)
    · go_simp
      obtain ⟨W1, hW1⟩ : ∃ W1, W1 = W0.alloc (.cells #[] 45) := ⟨_, rfl⟩
      have hb1 : Below W0.heap.size W0 W1 := by rw [hW1]; exact below_alloc _ _
      have kW1 : W1.heap[W0.heap.size]? = some (.cells #[] 45) := by rw [hW1]; exact heap_alloc_new W0 _
      have sW1 : W0.heap.size < W1.heap.size := by rw [hW1]; simp
      rw [← hW1]
      clear hW1
      have hSn : W1.cell? ⟨w.heap.size + 1, 0, none⟩ = some (.slice am m.length cm) ∧ W1.cell? ⟨w.heap.size + 1, 1, none⟩ = some (.slice (some ⟨b, off, none⟩) us.length cu) ∧ W1.cell? ⟨w.heap.size + 1, 2, none⟩ = some (.bool f) := ⟨cell_keep hb1 (by omega) hS0.1, cell_keep hb1 (by omega) hS0.2.1, cell_keep hb1 (by omega) hS0.2.2⟩
      have hUn : ∀ k (hk : k < us.length), UpAt W1 b (off + k * 3) us[k] := fun k hk => ⟨cell_keep hb1 (by omega) (hU0 k hk).1, cell_keep hb1 (by omega) (hU0 k hk).2.1, cell_keep hb1 (by omega) (hU0 k hk).2.2⟩
      clear hS0 hU0
      have hS0 := hSn
      have hU0 := hUn
      clear hSn hUn
      refine hK _ _ (fun _ => hS0) ?_
      clear hK K
      try simp only [Act.put, List.getElem_toArray, List.getElem_cons_succ, List.getElem_cons_zero, List.setIfInBounds_toArray, List.set_cons_zero, List.set_cons_succ]
      refine wpAnyE.two (i := 5) (j := 9) (by kernel_rfl) rfl rfl (fun K hK => ?_) (fun K hK => ?_)
      · skip
        obtain ⟨gq, cap, cur, Wa, hra, hca, hga, hka, hta, hsa, hgr⟩ := app_ups W1 24 W0.heap.size b off cu us kW1 hU0 hu4 hu1
        refine step_append_t (by rfl) (.tmp 52) (.tmp 54) (by rfl) _ _ (by rfl) (by rfl) hra ?_
        have hba : Below W0.heap.size W1 Wa := ⟨hgr.os, hgr.tape, hgr.output, hgr.size, fun k hk => hgr.block k (by have := heap_lt kW1; omega) (fun e => by simp at e; omega)⟩
        have hSn : Wa.cell? ⟨w.heap.size + 1, 0, none⟩ = some (.slice am m.length cm) ∧ Wa.cell? ⟨w.heap.size + 1, 1, none⟩ = some (.slice (some ⟨b, off, none⟩) us.length cu) ∧ Wa.cell? ⟨w.heap.size + 1, 2, none⟩ = some (.bool f) := ⟨cell_keep hba (by omega) hS0.1, cell_keep hba (by omega) hS0.2.1, cell_keep hba (by omega) hS0.2.2⟩
        clear hS0 hU0
        have hS0 := hSn
        clear hSn hra
        refine hK _ _ (fun _ => hS0) ?_
        clear hK K
        try simp only [Act.put, List.getElem_toArray, List.getElem_cons_succ, List.getElem_cons_zero, List.setIfInBounds_toArray, List.set_cons_zero, List.set_cons_succ]
        refine wpAnyE.take (i := 8) (v := ?_) rfl (by kernel_rfl) (by kernel_rfl) (by kernel_rfl) (by kernel_rfl) (fun _ _ _ h => h) (Or.inl ⟨by rfl, ?_⟩) (by assumption) ?_
        rotate_left
        · intro w hSw; obtain ⟨z0, z1, z2⟩ := hSw; go_simp; with_reducible rfl
        try simp only [Act.put, List.getElem_toArray, List.getElem_cons_succ, List.getElem_cons_zero, List.setIfInBounds_toArray, List.set_cons_zero, List.set_cons_succ]
        refine wpAnyE.one (i := 9) (by kernel_rfl) rfl (fun K hK => ?_)
        go_simp
        obtain ⟨W3, hW3⟩ : ∃ W3, W3 = Wa.alloc (.cells #[.slice none 0 0, .slice none 0 0, .bool false] 26) := ⟨_, rfl⟩
        have hb3 : Below Wa.heap.size Wa W3 := by rw [hW3]; exact below_alloc _ _
        have kW3 : W3.heap[Wa.heap.size]? = some (.cells #[.slice none 0 0, .slice none 0 0, .bool false] 26) := by rw [hW3]; exact heap_alloc_new Wa _
        have sW3 : Wa.heap.size < W3.heap.size := by rw [hW3]; simp
        rw [← hW3]
        clear hW3
        have hSn : W3.cell? ⟨w.heap.size + 1, 0, none⟩ = some (.slice am m.length cm) ∧ W3.cell? ⟨w.heap.size + 1, 1, none⟩ = some (.slice (some ⟨b, off, none⟩) us.length cu) ∧ W3.cell? ⟨w.heap.size + 1, 2, none⟩ = some (.bool f) := ⟨cell_keep hb3 (by have := hgr.size; omega) hS0.1, cell_keep hb3 (by have := hgr.size; omega) hS0.2.1, cell_keep hb3 (by have := hgr.size; omega) hS0.2.2⟩
        clear hS0
        have hS0 := hSn
        clear hSn
        refine hK _ _ (fun _ => hS0) ?_
        clear hK K
        try simp only [Act.put, List.getElem_toArray, List.getElem_cons_succ, List.getElem_cons_zero, List.setIfInBounds_toArray, List.set_cons_zero, List.set_cons_succ]
        refine wpAnyE.one (i := 10) (by kernel_rfl) rfl (fun K hK => ?_)
        obtain ⟨cq0, cq1, cq2⟩ := c3_of kW3
        have fq0 := f_of (o := 0) kW3
        have fq1 := f_of (o := 1) kW3
        have fq2 := f_of (o := 2) kW3
        have hset := set3_block W3 Wa.heap.size (.slice am m.length cm) (.slice (some ⟨gq, 0, none⟩) us.length cap) (.bool f) kW3
        go_simp
        obtain ⟨Wf, hWf⟩ : ∃ Wf, Wf = (((W3.setCell ⟨Wa.heap.size, 0, none⟩ (.slice am m.length cm)).setCell ⟨Wa.heap.size, 1, none⟩ (.slice (some ⟨gq, 0, none⟩) us.length cap)).setCell ⟨Wa.heap.size, 2, none⟩ (.bool f)) := ⟨_, rfl⟩
        rw [← hWf] at hset ⊢
        have HQ : Qu w4 Wf am m.length cm f us Wa.heap.size gq cap cur := ⟨((hdr.trans (hb1.mono (by have := hdr.size; omega))).trans (hba.mono (by have := hdr.size; omega))).trans ((hb3.trans (hset.2.1.mono (by omega))).mono (by have := hdr.size; have := hgr.size; omega)), hset.1, (hset.2.2 _ (by have := heap_lt hka; omega)).trans ((hb3.block _ (heap_lt hka)).trans hka), hta, hsa, hca, by have := hdr.size; have := hgr.size; omega, by have := hdr.size; omega, by have := heap_lt hka; omega⟩
        have hSf : Wf.cell? ⟨w.heap.size + 1, 0, none⟩ = some (.slice am m.length cm) ∧ Wf.cell? ⟨w.heap.size + 1, 1, none⟩ = some (.slice (some ⟨b, off, none⟩) us.length cu) ∧ Wf.cell? ⟨w.heap.size + 1, 2, none⟩ = some (.bool f) := ⟨far_keep hset.2.2 (by have := hgr.size; omega) hS0.1, far_keep hset.2.2 (by have := hgr.size; omega) hS0.2.1, far_keep hset.2.2 (by have := hgr.size; omega) hS0.2.2⟩
        refine hK _ _ (fun _ => hSf) ?_
        clear hK K
        try simp only [Act.put, List.getElem_toArray, List.getElem_cons_succ, List.getElem_cons_zero, List.setIfInBounds_toArray, List.set_cons_zero, List.set_cons_succ]
        refine wpAnyE.done (by kernel_rfl) ?_
        go_wp2_with fail
        go_meet
        exact ⟨_, _, _, _, rfl, HQ⟩
      · go_simp
        obtain ⟨W2, hW2⟩ : ∃ W2, W2 = W1.alloc (.cells #[.slice none 0 0, .slice none 0 0, .bool false] 26) := ⟨_, rfl⟩
        have hb2 : Below W1.heap.size W1 W2 := by rw [hW2]; exact below_alloc _ _
        have kW2 : W2.heap[W1.heap.size]? = some (.cells #[.slice none 0 0, .slice none 0 0, .bool false] 26) := by rw [hW2]; exact heap_alloc_new W1 _
        have sW2 : W1.heap.size < W2.heap.size := by rw [hW2]; simp
        rw [← hW2]
        clear hW2
        have hSn : W2.cell? ⟨w.heap.size + 1, 0, none⟩ = some (.slice am m.length cm) ∧ W2.cell? ⟨w.heap.size + 1, 1, none⟩ = some (.slice (some ⟨b, off, none⟩) us.length cu) ∧ W2.cell? ⟨w.heap.size + 1, 2, none⟩ = some (.bool f) := ⟨cell_keep hb2 (by omega) hS0.1, cell_keep hb2 (by omega) hS0.2.1, cell_keep hb2 (by omega) hS0.2.2⟩
        have hUn : ∀ k (hk : k < us.length), UpAt W2 b (off + k * 3) us[k] := fun k hk => ⟨cell_keep hb2 (by omega) (hU0 k hk).1, cell_keep hb2 (by omega) (hU0 k hk).2.1, cell_keep hb2 (by omega) (hU0 k hk).2.2⟩
        clear hS0 hU0
        have hS0 := hSn
        have hU0 := hUn
        clear hSn hUn
        have kz := (hb2.block _ (heap_lt kW1)).trans kW1
        refine hK _ _ (fun _ => hS0) ?_
        clear hK K
        try simp only [Act.put, List.getElem_toArray, List.getElem_cons_succ, List.getElem_cons_zero, List.setIfInBounds_toArray, List.set_cons_zero, List.set_cons_succ]
        refine wpAnyE.one (i := 5) (by kernel_rfl) rfl (fun K hK => ?_)
        obtain ⟨gq, cap, cur, Wa, hra, hca, hga, hka, hta, hsa, hgr⟩ := app_ups W2 24 W0.heap.size b off cu us kz hU0 hu4 hu1
        refine step_append_t (by rfl) (.tmp 52) (.tmp 54) (by rfl) _ _ (by rfl) (by rfl) hra ?_
        have hba : Below W0.heap.size W2 Wa := ⟨hgr.os, hgr.tape, hgr.output, hgr.size, fun k hk => hgr.block k (by have := heap_lt kz; omega) (fun e => by simp at e; omega)⟩
        have hSn : Wa.cell? ⟨w.heap.size + 1, 0, none⟩ = some (.slice am m.length cm) ∧ Wa.cell? ⟨w.heap.size + 1, 1, none⟩ = some (.slice (some ⟨b, off, none⟩) us.length cu) ∧ Wa.cell? ⟨w.heap.size + 1, 2, none⟩ = some (.bool f) := ⟨cell_keep hba (by omega) hS0.1, cell_keep hba (by omega) hS0.2.1, cell_keep hba (by omega) hS0.2.2⟩
        clear hS0 hU0
        have hS0 := hSn
        clear hSn hra
        have kq := (hgr.block W1.heap.size (heap_lt kW2) (fun e => by simp at e; omega)).trans kW2
        refine hK _ _ (fun _ => hS0) ?_
        clear hK K
        try simp only [Act.put, List.getElem_toArray, List.getElem_cons_succ, List.getElem_cons_zero, List.setIfInBounds_toArray, List.set_cons_zero, List.set_cons_succ]
        refine wpAnyE.take (i := 8) (v := ?_) rfl (by kernel_rfl) (by kernel_rfl) (by kernel_rfl) (by kernel_rfl) (fun _ _ _ h => h) (Or.inl ⟨by rfl, ?_⟩) (by assumption) ?_
        rotate_left
        · intro w hSw; obtain ⟨z0, z1, z2⟩ := hSw; go_simp; with_reducible rfl
        try simp only [Act.put, List.getElem_toArray, List.getElem_cons_succ, List.getElem_cons_zero, List.setIfInBounds_toArray, List.set_cons_zero, List.set_cons_succ]
        refine wpAnyE.one (i := 10) (by kernel_rfl) rfl (fun K hK => ?_)
        obtain ⟨cq0, cq1, cq2⟩ := c3_of kq
        have fq0 := f_of (o := 0) kq
        have fq1 := f_of (o := 1) kq
        have fq2 := f_of (o := 2) kq
        have hset := set3_block Wa W1.heap.size (.slice am m.length cm) (.slice (some ⟨gq, 0, none⟩) us.length cap) (.bool f) kq
        go_simp
        obtain ⟨Wf, hWf⟩ : ∃ Wf, Wf = (((Wa.setCell ⟨W1.heap.size, 0, none⟩ (.slice am m.length cm)).setCell ⟨W1.heap.size, 1, none⟩ (.slice (some ⟨gq, 0, none⟩) us.length cap)).setCell ⟨W1.heap.size, 2, none⟩ (.bool f)) := ⟨_, rfl⟩
        rw [← hWf] at hset ⊢
        have HQ : Qu w4 Wf am m.length cm f us W1.heap.size gq cap cur := ⟨(((hdr.trans (hb1.mono (by have := hdr.size; omega))).trans (hb2.mono (by have := hdr.size; omega))).trans (hba.mono (by have := hdr.size; omega))).trans (hset.2.1.mono (by have := hdr.size; omega)), hset.1, (hset.2.2 _ (by omega)).trans hka, hta, hsa, hca, by have := hdr.size; omega, by have := hdr.size; omega, by omega⟩
        have hSf : Wf.cell? ⟨w.heap.size + 1, 0, none⟩ = some (.slice am m.length cm) ∧ Wf.cell? ⟨w.heap.size + 1, 1, none⟩ = some (.slice (some ⟨b, off, none⟩) us.length cu) ∧ Wf.cell? ⟨w.heap.size + 1, 2, none⟩ = some (.bool f) := ⟨far_keep hset.2.2 (by have := hgr.size; omega) hS0.1, far_keep hset.2.2 (by have := hgr.size; omega) hS0.2.1, far_keep hset.2.2 (by have := hgr.size; omega) hS0.2.2⟩
        refine hK _ _ (fun _ => hSf) ?_
        clear hK K
        try simp only [Act.put, List.getElem_toArray, List.getElem_cons_succ, List.getElem_cons_zero, List.setIfInBounds_toArray, List.set_cons_zero, List.set_cons_succ]
        refine wpAnyE.done (by kernel_rfl) ?_
        go_wp2_with fail
        go_meet
        exact ⟨_, _, _, _, rfl, HQ⟩
    · go_simp
      obtain ⟨W1, hW1⟩ : ∃ W1, W1 = W0.alloc (.cells #[.slice none 0 0, .slice none 0 0, .bool false] 26) := ⟨_, rfl⟩
      have hb1 : Below W0.heap.size W0 W1 := by rw [hW1]; exact below_alloc _ _
      have kW1 : W1.heap[W0.heap.size]? = some (.cells #[.slice none 0 0, .slice none 0 0, .bool false] 26) := by rw [hW1]; exact heap_alloc_new W0 _
      have sW1 : W0.heap.size < W1.heap.size := by rw [hW1]; simp
      rw [← hW1]
      clear hW1
      have hSn : W1.cell? ⟨w.heap.size + 1, 0, none⟩ = some (.slice am m.length cm) ∧ W1.cell? ⟨w.heap.size + 1, 1, none⟩ = some (.slice (some ⟨b, off, none⟩) us.length cu) ∧ W1.cell? ⟨w.heap.size + 1, 2, none⟩ = some (.bool f) := ⟨cell_keep hb1 (by omega) hS0.1, cell_keep hb1 (by omega) hS0.2.1, cell_keep hb1 (by omega) hS0.2.2⟩
      have hUn : ∀ k (hk : k < us.length), UpAt W1 b (off + k * 3) us[k] := fun k hk => ⟨cell_keep hb1 (by omega) (hU0 k hk).1, cell_keep hb1 (by omega) (hU0 k hk).2.1, cell_keep hb1 (by omega) (hU0 k hk).2.2⟩
      clear hS0 hU0
      have hS0 := hSn
      have hU0 := hUn
      clear hSn hUn
      refine hK _ _ (fun _ => hS0) ?_
      clear hK K
      try simp only [Act.put, List.getElem_toArray, List.getElem_cons_succ, List.getElem_cons_zero, List.setIfInBounds_toArray, List.set_cons_zero, List.set_cons_succ]
      refine wpAnyE.one (i := 2) (by kernel_rfl) rfl (fun K hK => ?_)
      go_simp
      obtain ⟨W2, hW2⟩ : ∃ W2, W2 = W1.alloc (.cells #[] 45) := ⟨_, rfl⟩
      have hb2 : Below W1.heap.size W1 W2 := by rw [hW2]; exact below_alloc _ _
      have kW2 : W2.heap[W1.heap.size]? = some (.cells #[] 45) := by rw [hW2]; exact heap_alloc_new W1 _
      have sW2 : W1.heap.size < W2.heap.size := by rw [hW2]; simp
      rw [← hW2]
      clear hW2
      have hSn : W2.cell? ⟨w.heap.size + 1, 0, none⟩ = some (.slice am m.length cm) ∧ W2.cell? ⟨w.heap.size + 1, 1, none⟩ = some (.slice (some ⟨b, off, none⟩) us.length cu) ∧ W2.cell? ⟨w.heap.size + 1, 2, none⟩ = some (.bool f) := ⟨cell_keep hb2 (by omega) hS0.1, cell_keep hb2 (by omega) hS0.2.1, cell_keep hb2 (by omega) hS0.2.2⟩
      have hUn : ∀ k (hk : k < us.length), UpAt W2 b (off + k * 3) us[k] := fun k hk => ⟨cell_keep hb2 (by omega) (hU0 k hk).1, cell_keep hb2 (by omega) (hU0 k hk).2.1, cell_keep hb2 (by omega) (hU0 k hk).2.2⟩
      clear hS0 hU0
      have hS0 := hSn
      have hU0 := hUn
      clear hSn hUn
      have kz := (hb2.block _ (heap_lt kW1)).trans kW1
      refine hK _ _ (fun _ => hS0) ?_
      clear hK K
      try simp only [Act.put, List.getElem_toArray, List.getElem_cons_succ, List.getElem_cons_zero, List.setIfInBounds_toArray, List.set_cons_zero, List.set_cons_succ]
      refine wpAnyE.one (i := 5) (by kernel_rfl) rfl (fun K hK => ?_)
      obtain ⟨gq, cap, cur, Wa, hra, hca, hga, hka, hta, hsa, hgr⟩ := app_ups W2 24 W1.heap.size b off cu us kW2 hU0 hu4 hu1
      refine step_append_t (by rfl) (.tmp 52) (.tmp 54) (by rfl) _ _ (by rfl) (by rfl) hra ?_
      have hba : Below W1.heap.size W2 Wa := ⟨hgr.os, hgr.tape, hgr.output, hgr.size, fun k hk => hgr.block k (by have := heap_lt kW2; omega) (fun e => by simp at e; omega)⟩
      have hSn : Wa.cell? ⟨w.heap.size + 1, 0, none⟩ = some (.slice am m.length cm) ∧ Wa.cell? ⟨w.heap.size + 1, 1, none⟩ = some (.slice (some ⟨b, off, none⟩) us.length cu) ∧ Wa.cell? ⟨w.heap.size + 1, 2, none⟩ = some (.bool f) := ⟨cell_keep hba (by omega) hS0.1, cell_keep hba (by omega) hS0.2.1, cell_keep hba (by omega) hS0.2.2⟩
      clear hS0 hU0
      have hS0 := hSn
      clear hSn hra
      have kq := (hgr.block W0.heap.size (heap_lt kz) (fun e => by simp at e; omega)).trans kz
      refine hK _ _ (fun _ => hS0) ?_
      clear hK K
      try simp only [Act.put, List.getElem_toArray, List.getElem_cons_succ, List.getElem_cons_zero, List.setIfInBounds_toArray, List.set_cons_zero, List.set_cons_succ]
      refine wpAnyE.take (i := 8) (v := ?_) rfl (by kernel_rfl) (by kernel_rfl) (by kernel_rfl) (by kernel_rfl) (fun _ _ _ h => h) (Or.inl ⟨by rfl, ?_⟩) (by assumption) ?_
      rotate_left
      · intro w hSw; obtain ⟨z0, z1, z2⟩ := hSw; go_simp; with_reducible rfl
      try simp only [Act.put, List.getElem_toArray, List.getElem_cons_succ, List.getElem_cons_zero, List.setIfInBounds_toArray, List.set_cons_zero, List.set_cons_succ]
      refine wpAnyE.one (i := 10) (by kernel_rfl) rfl (fun K hK => ?_)
      obtain ⟨cq0, cq1, cq2⟩ := c3_of kq
      have fq0 := f_of (o := 0) kq
      have fq1 := f_of (o := 1) kq
      have fq2 := f_of (o := 2) kq
      have hset := set3_block Wa W0.heap.size (.slice am m.length cm) (.slice (some ⟨gq, 0, none⟩) us.length cap) (.bool f) kq
      go_simp
      obtain ⟨Wf, hWf⟩ : ∃ Wf, Wf = (((Wa.setCell ⟨W0.heap.size, 0, none⟩ (.slice am m.length cm)).setCell ⟨W0.heap.size, 1, none⟩ (.slice (some ⟨gq, 0, none⟩) us.length cap)).setCell ⟨W0.heap.size, 2, none⟩ (.bool f)) := ⟨_, rfl⟩
      rw [← hWf] at hset ⊢
      have HQ : Qu w4 Wf am m.length cm f us W0.heap.size gq cap cur := ⟨(((hdr.trans (hb1.mono (by have := hdr.size; omega))).trans (hb2.mono (by have := hdr.size; omega))).trans (hba.mono (by have := hdr.size; omega))).trans (hset.2.1.mono (by have := hdr.size; omega)), hset.1, (hset.2.2 _ (by omega)).trans hka, hta, hsa, hca, by have := hdr.size; omega, by have := hdr.size; omega, by omega⟩
      have hSf : Wf.cell? ⟨w.heap.size + 1, 0, none⟩ = some (.slice am m.length cm) ∧ Wf.cell? ⟨w.heap.size + 1, 1, none⟩ = some (.slice (some ⟨b, off, none⟩) us.length cu) ∧ Wf.cell? ⟨w.heap.size + 1, 2, none⟩ = some (.bool f) := ⟨far_keep hset.2.2 (by have := hgr.size; omega) hS0.1, far_keep hset.2.2 (by have := hgr.size; omega) hS0.2.1, far_keep hset.2.2 (by have := hgr.size; omega) hS0.2.2⟩
      refine hK _ _ (fun _ => hSf) ?_
      clear hK K
      try simp only [Act.put, List.getElem_toArray, List.getElem_cons_succ, List.getElem_cons_zero, List.setIfInBounds_toArray, List.set_cons_zero, List.set_cons_succ]
      refine wpAnyE.done (by kernel_rfl) ?_
      go_wp2_with fail
      go_meet
      exact ⟨_, _, _, _, rfl, HQ⟩
  case rest =>
    obtain ⟨q, gq, cap, cur, rfl, Q⟩ := hcut
    have hBc := hB4.trans (Q.hb.mono hB4.size)
    have hk1c := (Q.hb.block _ (heap_lt hk14)).trans hk14
    have hqw : w.heap.size < q := Nat.lt_of_lt_of_le (heap_lt hk14) Q.q1
    have hgw : w.heap.size < gq := Nat.lt_of_lt_of_le (heap_lt hk14) Q.g1
    have HCall : Hid (∀ (vs : List Up) (W : World), vs.Perm us → Below w.heap.size w W → HoldsU W (some ⟨gq, 0, none⟩) vs → Calls Tryz.prog 19 #[replV aS s.length cs al l.length cl g ph a1 n1 c1 a2 n2 c2 f0, pushV am m.length cm (some ⟨gq, 0, none⟩) us.length cap f] W fun e w' => e = .returned (.tuple #[.string (voteS s l g m vs f), .int .i64 0]) ∧ Below W.heap.size W w') := fun vs W hp hb hv => by
      have h := of_any aS cs s al cl l g ph a1 n1 c1 a2 n2 c2 f0 am cm m (some ⟨gq, 0, none⟩) cap vs f W (hg.below hb) (ht.below hb) (hs.below hb) hsl (hl.below hb) hll (hm.below hb) hml hv (by rw [hp.length_eq]; exact hul)
      rw [voteE_iff.2 ⟨push_perm hp HP.out.1, HP.out.2⟩, hp.length_eq] at h
      exact h
    have hUc := holdsU_cur Q.hu Q.ht
    have hkq := Q.hq
    have hku := Q.hu
    obtain ⟨rr, hcur⟩ := cur_of Q.ht
    have hgq := Q.ne
    have hcap := Q.hc
    clear Q hk14 hk24 hB4 hs hl hm hcu hu HT HV HP hsz hle hg ht
    obtain ⟨ua, ub, uc, ud, rfl⟩ : ∃ ua ub uc ud, us = [ua, ub, uc, ud] := by
      match us, HLn.out with
      | [ua, ub, uc, ud], _ => exact ⟨ua, ub, uc, ud, rfl⟩
    obtain ⟨q0, q1, q2⟩ := c3_of hkq
    simp only [List.length_cons, List.length_nil, Nat.zero_add, Nat.reduceAdd] at *
    have hcu0 := fun j (hj : j < 4) => hcell3 hku hcur j hj
    obtain ⟨e0, e1, e2⟩ := hcu0 0 (by omega)
    obtain ⟨g0, g1, g2⟩ := hcu0 3 (by omega)
    simp only [Nat.zero_add, Nat.zero_mul, Nat.reduceMul, Nat.reduceAdd, List.getElem_cons_zero, List.getElem_cons_succ] at e0 e1 e2 g0 g1 g2
    have fr0 := f_of (o := 0) hku
    have fr1 := f_of (o := 1) hku
    have fr2 := f_of (o := 2) hku
    have fr9 := f_of (o := 9) hku
    have fr10 := f_of (o := 10) hku
    have fr11 := f_of (o := 11) hku
    obtain ⟨kg, hB6, hoth⟩ := six_block wc gq 9 10 11 cur (.string ud.name) (.int .i64 ud.old) (.int .i64 ud.new) (.string ua.name) (.int .i64 ua.old) (.int .i64 ua.new) hku
    have hUs : HoldsU (((((((wc.setCell ⟨gq, 0, none⟩ (.string ud.name)).setCell ⟨gq, 1, none⟩ (.int .i64 ud.old)).setCell ⟨gq, 2, none⟩ (.int .i64 ud.new)).setCell ⟨gq, 9, none⟩ (.string ua.name)).setCell ⟨gq, 10, none⟩ (.int .i64 ua.old)).setCell ⟨gq, 11, none⟩ (.int .i64 ua.new)).drew) (some ⟨gq, 0, none⟩) [ud, ub, uc, ua] := (holdsU_cur (w := ((((((wc.setCell ⟨gq, 0, none⟩ (.string ud.name)).setCell ⟨gq, 1, none⟩ (.int .i64 ud.old)).setCell ⟨gq, 2, none⟩ (.int .i64 ud.new)).setCell ⟨gq, 9, none⟩ (.string ua.name)).setCell ⟨gq, 10, none⟩ (.int .i64 ua.old)).setCell ⟨gq, 11, none⟩ (.int .i64 ua.new))) kg (by rw [hcur]; exact swap_row4 ua ub uc ud rr)).below ((Below.refl _ _).drew)
    have hBs : Below w.heap.size w (((((((wc.setCell ⟨gq, 0, none⟩ (.string ud.name)).setCell ⟨gq, 1, none⟩ (.int .i64 ud.old)).setCell ⟨gq, 2, none⟩ (.int .i64 ud.new)).setCell ⟨gq, 9, none⟩ (.string ua.name)).setCell ⟨gq, 10, none⟩ (.int .i64 ua.old)).setCell ⟨gq, 11, none⟩ (.int .i64 ua.new)).drew) := hBc.trans ((hB6.mono (Nat.le_of_lt hgw)).trans ((Below.refl _ _).drew))
    have hkq5 := (hoth q (Ne.symm hgq)).trans hkq
    have hkqs := (((Below.refl ((((((wc.setCell ⟨gq, 0, none⟩ (.string ud.name)).setCell ⟨gq, 1, none⟩ (.int .i64 ud.old)).setCell ⟨gq, 2, none⟩ (.int .i64 ud.new)).setCell ⟨gq, 9, none⟩ (.string ua.name)).setCell ⟨gq, 10, none⟩ (.int .i64 ua.old)).setCell ⟨gq, 11, none⟩ (.int .i64 ua.new)).heap.size ((((((wc.setCell ⟨gq, 0, none⟩ (.string ud.name)).setCell ⟨gq, 1, none⟩ (.int .i64 ud.old)).setCell ⟨gq, 2, none⟩ (.int .i64 ud.new)).setCell ⟨gq, 9, none⟩ (.string ua.name)).setCell ⟨gq, 10, none⟩ (.int .i64 ua.old)).setCell ⟨gq, 11, none⟩ (.int .i64 ua.new))).drew).block q (heap_lt hkq5)).trans hkq5
    have hk15 := (hoth w.heap.size (by omega)).trans hk1c
    have hk1s := (((Below.refl ((((((wc.setCell ⟨gq, 0, none⟩ (.string ud.name)).setCell ⟨gq, 1, none⟩ (.int .i64 ud.old)).setCell ⟨gq, 2, none⟩ (.int .i64 ud.new)).setCell ⟨gq, 9, none⟩ (.string ua.name)).setCell ⟨gq, 10, none⟩ (.int .i64 ua.old)).setCell ⟨gq, 11, none⟩ (.int .i64 ua.new)).heap.size ((((((wc.setCell ⟨gq, 0, none⟩ (.string ud.name)).setCell ⟨gq, 1, none⟩ (.int .i64 ud.old)).setCell ⟨gq, 2, none⟩ (.int .i64 ud.new)).setCell ⟨gq, 9, none⟩ (.string ua.name)).setCell ⟨gq, 10, none⟩ (.int .i64 ua.old)).setCell ⟨gq, 11, none⟩ (.int .i64 ua.new))).drew).block w.heap.size (heap_lt hk15)).trans hk15
    have HP2 : Hid (([ud, ub, uc, ua] : List Up).Perm [ua, ub, uc, ud]) := swapE_perm [ua, ub, uc, ud]
    have HBun : Hid (_ ∧ _ ∧ _ ∧ _) := ⟨hUs, hBs, hkqs, hk1s⟩
    clear hUs hBs hkqs hk1s hkq5 hk15 hoth hB6 kg hcur hcu0 hkq hku hk1c hBc hUc
    go_upto_region 12 with fail
    go_region
    obtain ⟨hUs, hBs, hkqs, hk1s⟩ := HBun.out
    clear HBun
    generalize ((((((wc.setCell ⟨gq, 0, none⟩ (.string ud.name)).setCell ⟨gq, 1, none⟩ (.int .i64 ud.old)).setCell ⟨gq, 2, none⟩ (.int .i64 ud.new)).setCell ⟨gq, 9, none⟩ (.string ua.name)).setCell ⟨gq, 10, none⟩ (.int .i64 ua.old)).setCell ⟨gq, 11, none⟩ (.int .i64 ua.new)).drew = Ws at *
    clear q0 q1 q2 e0 e1 e2 g0 g1 g2 fr0 fr1 fr2 fr9 fr10 fr11
    have hcl := HCall.out [ud, ub, uc, ua] Ws HP2.out hBs hUs
    skip
    obtain ⟨q0, q1, q2⟩ := c3_of hkqs
    obtain ⟨r0, r1, r2, r3, r4, r5, r6⟩ := c7_of hk1s
    go_wp2_with fail
    refine hcl.mono ?_
    clear hcl
    rintro e w6 ⟨rfl, hb6⟩
    have hB7 := hBs.trans (hb6.mono hBs.size)
    clear hb6 q0 q1 q2 r0 r1 r2 r3 r4 r5 r6
    go_wp2
    go_ret
    exact ⟨rfl, hB7⟩
end
end Go.Proofs.YtgkmoehbjdmefaaGreatDoor
