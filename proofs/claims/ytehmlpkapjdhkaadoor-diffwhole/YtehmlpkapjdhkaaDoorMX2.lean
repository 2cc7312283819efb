import Derived.Test.YtehmlpkapjdhkaaDoorMX1
import Derived.Lib.AppendZeros
import Derived.Test.YtehmlpkapjdhkaaDoorMR
import Derived.Lib.SlicesCompact
import Derived.Sort.Walk0
namespace Go.Proofs.YtehmlpkapjdhkaaDoor
section
open Go.RowKit
attribute [local go_sem] Oper.semAt_some
set_option maxRecDepth 100000

set_option maxHeartbeats 1000000 in
theorem growR_any (n : Nat) (hn : n ≤ 1000) (w : World) :
    Calls Tryd.prog 50 #[.slice none 0 0, .int .i64 n] w fun e w' => ∃ v, e = .returned v ∧ w'.ownsRow w.heap.size 43 2 v 0 [] ∧ Below w.heap.size w w' := by
  rcases Nat.eq_zero_or_pos n with h0 | h0
  · subst h0
    go_enter Tryd.func50, Tryd.ntmps50
    go_wp2
    go_ret
    exact ⟨_, rfl, World.ownsRow_nil _ _ _ _, Below.refl _ _⟩
  · obtain ⟨i0, hi0, hz0, hzs, hzb⟩ := info_parts Tryd.info43
    have hr := Go.Lib.run_append_nil_zeros (P := Tryd.prog) w 40 3 40 43 i0 _ .i64 .i64 Tryd.underlying40 Tryd.underlying3 hi0 hz0 n h0 (by rw [hzs]; decide) (by omega) (by rw [hzb]; omega)
    have hge := grownCap_ge w n 0 43
    have hle := grownCap_le_maxLen w n 0 43 (by unfold maxLen; omega)
    generalize grownCap w n 0 43 = cap at *
    have hown : (w.drew.alloc (.cells (Builtin.zeroCells (Value.agg #[.string { data := #[] }, .int .i64 0]).cells n ++ Builtin.zeroCells (Value.agg #[.string { data := #[] }, .int .i64 0]).cells (cap - n)) 43)).ownsRow w.heap.size 43 2 (.slice (some ⟨w.heap.size, 0, none⟩) 0 cap) 0 [] :=
      World.ownsRow_made w.drew _ cap (Nat.le_refl _) hle (by
        rw [Array.size_append, size_zeroCells, size_zeroCells, ← Nat.add_mul, show (Value.agg #[.string { data := #[] }, .int .i64 0]).cells.size = 2 from rfl]
        congr 1; omega)
    have hb : Below w.heap.size w (w.drew.alloc (.cells (Builtin.zeroCells (Value.agg #[.string { data := #[] }, .int .i64 0]).cells n ++ Builtin.zeroCells (Value.agg #[.string { data := #[] }, .int .i64 0]).cells (cap - n)) 43)) := (Below.refl _ _).drew.trans (below_alloc w.drew _)
    generalize w.drew.alloc (.cells (Builtin.zeroCells (Value.agg #[.string { data := #[] }, .int .i64 0]).cells n ++ Builtin.zeroCells (Value.agg #[.string { data := #[] }, .int .i64 0]).cells (cap - n)) 43) = W1 at *
    have hw1 : IntKind.i64.wrap (n : Int) = n := by rw [IntKind.wrap_i64]; omega
    have hp : (0 : Int) < (n : Int) := by omega
    have hp2 : ¬ (n : Int) < 0 := by omega
    go_enter Tryd.func50, Tryd.ntmps50
    go_wp2_with (at_builtin; refine Lib.wpList_append_run _ rfl _ _ 40 3 rfl _ _ rfl rfl _ _ hr ?_)
    go_ret
    exact ⟨_, rfl, hown, hb⟩

theorem run_append_none34 (w : World) (ty : TypeId) (n cap0 : Nat) (g : Addr) (ad : Option Addr) (c : Nat) (hn : n ≤ cap0) :
    (Builtin.append_ #[40, 40] ty #[.slice (some g) n cap0, .slice ad 0 c]).run Tryd.prog w = .ok (.slice (some g) n cap0) w := by
  obtain ⟨i0, hi, hz0, hz1, hz2⟩ := info_parts Tryd.info43
  cases ad <;> simp [Builtin.append_, run_underlying Tryd.underlying40, sizeOf, typeInfo, hi, Builtin.lenOf, Builtin.firstCells, loadCells, loadCellsFrom, hn, storeCells]
/-- append of a list of refs that may be empty. -/
theorem app_refs_any (w : World) (base : Nat) (ty : TypeId) (v : Value) (xs : List Rf) (hown : w.ownsRow base 43 2 v xs.length (rowR xs)) (a : Option Addr) (c : Nat) (m : List Rf) (h : HoldsR w a m) (hlen : xs.length + m.length ≤ 1000) (hbase : base ≤ w.heap.size) :
    ∃ v' w', (Builtin.append_ #[40, 40] ty #[v, .slice a m.length c]).run Tryd.prog w = .ok v' w' ∧ w'.ownsRow base 43 2 v' (xs ++ m).length (rowR (xs ++ m)) ∧ w.grownBy w' v.ownBlock := by
  by_cases h0 : m.length = 0
  · have e : m = [] := List.eq_nil_of_length_eq_zero h0
    subst e
    obtain ⟨i0, hi0, hz0, hzs, hzb⟩ := info_parts Tryd.info43
    have hgr : ∀ row, w.grownBy w row := fun row => ⟨rfl, rfl, rfl, Nat.le_refl _, fun _ _ _ => rfl⟩
    rw [List.append_nil]
    obtain ⟨q, hq⟩ := hown
    rcases hq with ⟨rfl, e⟩ | ⟨g, cap, cur, rfl, h1, h2, h3, h4, h5, h6⟩
    · exact ⟨_, _, app_none_g Tryd.underlying40 hi0 ty a c w, ⟨q, .inl ⟨rfl, e⟩⟩, hgr _⟩
    · exact ⟨_, _, run_append_none34 w ty _ cap _ a c h3, ⟨q, .inr ⟨g, cap, cur, rfl, h1, h2, h3, h4, h5, h6⟩⟩, hgr _⟩
  · obtain ⟨b, off, rfl, _, hc⟩ := h 0 (by omega)
    exact app_refs w base ty v xs hown b off c m hc hlen hbase
end

section
open Go.RowKit
attribute [local go_sem] Oper.semAt_some
set_option maxRecDepth 100000

theorem own_grown {w w' : World} {z : Nat} {e : TypeId} {size : Nat} {v : Value} {n : Nat} {xs : List Value} (ho : w.ownsRow z e size v n xs) (hg : w.grownBy w' v.ownBlock) (hz : z ≤ w.heap.size) : Below z w w' :=
  ⟨hg.os, hg.tape, hg.output, hg.size, fun k hk => hg.block k (by omega) (fun e => by have := (ho.lt k e.symm).1; omega)⟩
theorem c2_of {w : World} {q : Nat} {x0 x1 : Value} {t : TypeId} (h : w.heap[q]? = some (.cells #[x0, x1] t)) : w.cell? ⟨q, 0, none⟩ = some x0 ∧ w.cell? ⟨q, 1, none⟩ = some x1 := by
  refine ⟨?_, ?_⟩ <;> (rw [cell_of_row w _ _ _ _ _ h]; rfl)
abbrev two34 (a1 : Option Addr) (n1 c1 : Nat) (a2 : Option Addr) (n2 c2 : Nat) : Obj := .cells #[.slice a1 n1 c1, .slice a2 n2 c2] 40

set_option maxHeartbeats 4000000 in
/-- two lists, one behind the other. -/
theorem concat_any (a1 : Option Addr) (c1 : Nat) (l : List Rf) (a2 : Option Addr) (c2 : Nat) (m : List Rf) (g : Nat) (w : World) (hg : w.heap[g]? = some (two34 a1 l.length c1 a2 m.length c2)) (h1 : HoldsR w a1 l) (h2 : HoldsR w a2 m) (hl : l.length ≤ 8) (hm : m.length ≤ 8) :
    Calls Tryd.prog 40 #[.slice (some ⟨g, 0, none⟩) 2 2] w fun e w' => ∃ a c, e = .returned (.slice a (l ++ m).length c) ∧ HoldsR w' a (l ++ m) ∧ Below w.heap.size w w' := by
  go_enter Tryd.func40, Tryd.ntmps40
  go_wp2_with fail
  go_loopw [3, 11] (fun n i wr => Below w.heap.size w wr ∧ ((i = .int .i64 0 ∧ n = .int .i64 0) ∨ (i = .int .i64 1 ∧ n = .int .i64 (l.length : Int)) ∨ (i = .int .i64 2 ∧ n = .int .i64 ((l.length : Int) + (m.length : Int))))) (fun _ i _ => 2 - (intOf i).toNat)
  case atStart => exact ⟨Below.refl _ _, .inl ⟨rfl, rfl⟩⟩
  case round =>
    obtain ⟨hB, ⟨rfl, rfl⟩ | ⟨rfl, rfl⟩ | ⟨rfl, rfl⟩⟩ := hrel
    · have k := (hB.block _ (heap_lt hg)).trans hg
      obtain ⟨y0, y1⟩ := c2_of k
      have hw : IntKind.i64.wrap (l.length : Int) = l.length := by rw [IntKind.wrap_i64]; omega
      have hn : ¬ (l.length : Int) < 0 := by omega
      go_wp2
      go_roundw
      case rel => exact ⟨hB, .inr (.inl ⟨rfl, rfl⟩)⟩
      case measure => simp [intOf]
    · have k := (hB.block _ (heap_lt hg)).trans hg
      obtain ⟨y0, y1⟩ := c2_of k
      have hw : IntKind.i64.wrap ((l.length : Int) + (m.length : Int)) = (l.length : Int) + (m.length : Int) := by rw [IntKind.wrap_i64]; omega
      have hn : ¬ (l.length : Int) + (m.length : Int) < 0 := by omega
      go_wp2
      go_roundw
      case rel => exact ⟨hB, .inr (.inr ⟨rfl, rfl⟩)⟩
      case measure => simp [intOf]
    · have hgr := growR_any (l.length + m.length) (by omega) wr
      rw [Int.natCast_add] at hgr
      go_wp2_with fail
      refine hgr.mono ?_
      clear hgr
      rintro e w1 ⟨v1, rfl, O1, hb1⟩
      have hB1 := hB.trans (hb1.mono hB.size)
      have O1' := ownsRow_from O1 hB.size
      have hz1 := hB1.size
      clear O1 hb1 hB
      go_wp2_with fail
      go_loopw [6, 27] (fun v i wr => Below w.heap.size w wr ∧ ((i = .int .i64 0 ∧ wr.ownsRow w.heap.size 43 2 v 0 (rowR [])) ∨ (i = .int .i64 1 ∧ wr.ownsRow w.heap.size 43 2 v l.length (rowR l)) ∨ (i = .int .i64 2 ∧ wr.ownsRow w.heap.size 43 2 v (l ++ m).length (rowR (l ++ m))))) (fun _ i _ => 2 - (intOf i).toNat)
      case atStart => exact ⟨hB1, .inl ⟨rfl, O1'⟩⟩
      case round =>
        clear hB1 O1' hz1
        obtain ⟨hB, ⟨rfl, O⟩ | ⟨rfl, O⟩ | ⟨rfl, O⟩⟩ := hrel
        · have k := (hB.block _ (heap_lt hg)).trans hg
          obtain ⟨y0, y1⟩ := c2_of k
          obtain ⟨v', w2, hr, O2, g2⟩ := app_refs_any wr w.heap.size 40 _ [] O a1 c1 l (h1.below hB) (by simp; omega) hB.size
          have hB2 := hB.trans ((own_grown O g2 hB.size).mono (Nat.le_refl _))
          rw [List.nil_append] at O2
          clear g2 O
          go_wp2_with (at_builtin; refine Lib.wpList_append_run _ rfl _ _ 40 40 rfl _ _ rfl rfl _ _ hr ?_)
          go_roundw
          case rel => exact ⟨hB2, .inr (.inl ⟨rfl, O2⟩)⟩
          case measure => simp [intOf]
        · have k := (hB.block _ (heap_lt hg)).trans hg
          obtain ⟨y0, y1⟩ := c2_of k
          obtain ⟨v', w2, hr, O2, g2⟩ := app_refs_any wr w.heap.size 40 _ l O a2 c2 m (h2.below hB) (by omega) hB.size
          have hB2 := hB.trans ((own_grown O g2 hB.size).mono (Nat.le_refl _))
          clear g2 O
          go_wp2_with (at_builtin; refine Lib.wpList_append_run _ rfl _ _ 40 40 rfl _ _ rfl rfl _ _ hr ?_)
          go_roundw
          case rel => exact ⟨hB2, .inr (.inr ⟨rfl, O2⟩)⟩
          case measure => simp [intOf]
        · obtain ⟨a', c', rfl, hh⟩ := ownR_reads O
          go_wp2
          go_ret
          exact ⟨_, _, rfl, hh, hB⟩
end

section
open Go.RowKit
attribute [local go_sem] Oper.semAt_some
set_option maxRecDepth 100000

set_option maxHeartbeats 4000000 in
theorem dcheck_any (a1 : Option Addr) (c1 : Nat) (l : List Rf) (a2 : Option Addr) (c2 : Nat) (m : List Rf) (g : Nat) (w : World) (hG : Glob w) (hg : w.heap[g]? = some (two34 a1 l.length c1 a2 m.length c2)) (h1 : HoldsR w a1 l) (h2 : HoldsR w a2 m) :
    Calls Tryd.prog 27 #[.slice (some ⟨g, 0, none⟩) 2 2] w fun e w' => e = .returned (.int .i64 (checkL l m)) ∧ Below w.heap.size w w' := by
  go_enter Tryd.func27, Tryd.ntmps27
  go_wp2_with fail
  go_loopw [12] (fun i wr => Below w.heap.size w wr ∧ (i = .int .i64 0 ∨ (i = .int .i64 1 ∧ l.length ≤ 8) ∨ (i = .int .i64 2 ∧ l.length ≤ 8 ∧ m.length ≤ 8))) (fun i _ => 2 - (intOf i).toNat)
  case atStart => exact ⟨Below.refl _ _, .inl rfl⟩
  case round =>
    obtain ⟨hB, rfl | ⟨rfl, hl⟩ | ⟨rfl, hl, hm⟩⟩ := hrel
    · have k := (hB.block _ (heap_lt hg)).trans hg
      obtain ⟨y0, y1⟩ := c2_of k
      by_cases hl : 8 < l.length
      · have hd : (8 : Int) < (l.length : Int) := by omega
        have HR : Hid (2 = checkL l m) := by unfold Hid checkL; rw [if_pos hl]
        clear hl
        go_wp2
        go_ret
        exact ⟨ret_int HR.out, hB⟩
      · have hd : ¬ (8 : Int) < (l.length : Int) := by omega
        have hl' : Hid (l.length ≤ 8) := Nat.le_of_not_lt hl
        clear hl
        go_wp2
        go_roundw
        case rel => exact ⟨hB, .inr (.inl ⟨rfl, hl'.out⟩)⟩
        case measure => simp [intOf]
    · have k := (hB.block _ (heap_lt hg)).trans hg
      obtain ⟨y0, y1⟩ := c2_of k
      have hl' : Hid (l.length ≤ 8) := hl
      clear hl
      by_cases hl : 8 < m.length
      · have hd : (8 : Int) < (m.length : Int) := by omega
        have HR : Hid (2 = checkL l m) := by unfold Hid checkL; rw [if_neg (by have := hl'.out; omega), if_pos hl]
        clear hl
        go_wp2
        go_ret
        exact ⟨ret_int HR.out, hB⟩
      · have hd : ¬ (8 : Int) < (m.length : Int) := by omega
        have hm' : Hid (m.length ≤ 8) := Nat.le_of_not_lt hl
        clear hl
        go_wp2
        go_roundw
        case rel => exact ⟨hB, .inr (.inr ⟨rfl, hl'.out, hm'.out⟩)⟩
        case measure => simp [intOf]
    · have k := (hB.block _ (heap_lt hg)).trans hg
      have HE : Hid (∀ M, l ++ m = M → checkL l m = if namesE M ≠ 0 then namesE M else if sortB l = false then 4 else if sortB m = false then 4 else 0) := by
        rintro M rfl
        unfold checkL
        rw [if_neg (by omega), if_neg (by omega)]
      have hc := concat_any a1 c1 l a2 c2 m g wr k (h1.below hB) (h2.below hB) hl hm
      have HLM : Hid (l.length ≤ 8 ∧ m.length ≤ 8) := ⟨hl, hm⟩
      clear hl hm
      go_wp2_with fail
      refine hc.mono ?_
      clear hc
      rintro e w1 ⟨a3, c3, rfl, h3, hb1⟩
      have hB1 := hB.trans (hb1.mono hB.size)
      clear hb1 k hB
      obtain ⟨M, hM⟩ : ∃ M, l ++ m = M := ⟨_, rfl⟩
      have HE1 := HE.out M hM
      rw [hM] at h3 ⊢
      have HL : Hid (M.length ≤ 16) := by have := HLM.out; have := congrArg List.length hM; simp at this; show M.length ≤ 16; omega
      have HE2 : Hid (checkL l m = if namesE M ≠ 0 then namesE M else if sortB l = false then 4 else if sortB m = false then 4 else 0) := HE1
      clear HE1 HE hM
      go_wp2_with fail
      go_loopw [23] (fun i wr => ∃ k : Nat, i = .int .i64 k ∧ k ≤ M.length ∧ Below w1.heap.size w1 wr ∧ Hid (namesE M = namesE (M.drop k))) (fun i _ => M.length - (intOf i).toNat)
      case atStart => exact ⟨0, rfl, Nat.zero_le _, Below.refl _ _, rfl⟩
      case round =>
        obtain ⟨k, rfl, hk, hB, H⟩ := hrel
        have hBw := hB1.trans (hB.mono hB1.size)
        by_cases hlt : k < M.length
        · obtain ⟨b, off, rfl, hb, hc⟩ := (h3.below hB) k hlt
          obtain ⟨x0, x1⟩ := hc k hlt
          have hA := below_alloc wr (.cells #[.string M[k].name, .int .i64 M[k].id] 43)
          have hn := heap_alloc_new wr (.cells #[.string M[k].name, .int .i64 M[k].id] 43)
          obtain ⟨z0, z1⟩ := c2_of hn
          have HD : Hid (namesE M = if nameE M[k].name ≠ 0 then nameE M[k].name else namesE (M.drop (k + 1))) := by unfold Hid; rw [H.out, namesE_drop hlt]
          have hB2 := hB.trans (hA.mono hB.size)
          have hBw2 := hB1.trans (hB2.mono hB1.size)
          have hna := name_any M[k].name _ (hG.below hBw2)
          have hk16 : k < 16 := by have := HL.out; omega
          clear hc H hA hn hB
          go_wp2_with fail
          generalize wr.alloc (.cells #[.string M[k].name, .int .i64 M[k].id] 43) = W2 at *
          refine hna.mono ?_
          clear hna
          rintro e W3 ⟨rfl, hb3⟩
          have hB3 := hB2.trans (hb3.mono hB2.size)
          have hBw3 := hB1.trans (hB3.mono hB1.size)
          clear hb3 hB2 hBw2 z0 z1 x0 x1
          by_cases k3 : nameE M[k].name = 0
          case neg =>
            have HR : Hid (nameE M[k].name = checkL l m) := by
              unfold Hid
              have e : namesE M = nameE M[k].name := by rw [HD.out, if_pos k3]
              rw [HE2.out, e, if_pos k3]
            have q1 : (nameE M[k].name != 0) = true := by simpa using k3
            clear k3
            go_wp2
            go_ret
            exact ⟨ret_int HR.out, hBw3⟩
          have HD1 : Hid (namesE M = namesE (M.drop (k + 1))) := by unfold Hid; rw [HD.out, if_neg (fun e => e k3)]
          rw [k3]
          clear k3 HD
          go_wp2
          go_roundw
          case rel => exact ⟨k + 1, by go_num, by omega, hB3, HD1⟩
          case measure => simp [intOf]; omega
        · have HE3 : Hid (checkL l m = if sortB l = false then 4 else if sortB m = false then 4 else 0) := by
            have e : namesE M = 0 := by rw [H.out, List.drop_of_length_le (by omega)]; rfl
            unfold Hid
            rw [HE2.out, if_neg (fun q => q e)]
          clear H HE2
          go_wp2_with fail
          go_loopw [36] (fun i w3 => Below w.heap.size w w3 ∧ (i = .int .i64 0 ∨ (i = .int .i64 1 ∧ sortB l = true) ∨ (i = .int .i64 2 ∧ sortB l = true ∧ sortB m = true))) (fun i _ => 2 - (intOf i).toNat)
          case atStart => exact ⟨hBw, .inl rfl⟩
          case round =>
            clear hB hBw
            obtain ⟨hB, rfl | ⟨rfl, hsl⟩ | ⟨rfl, hsl, hsm⟩⟩ := hrel
            · have k := (hB.block _ (heap_lt hg)).trans hg
              obtain ⟨y0, y1⟩ := c2_of k
              have hr := rises_any a1 c1 l _ (h1.below hB) (by have := HLM.out; omega)
              go_wp2_with fail
              refine hr.mono ?_
              clear hr
              rintro e W4 ⟨rfl, hb4⟩
              have hB4 := hB.trans (hb4.mono hB.size)
              clear hb4 hB k y0 y1
              cases hs : sortB l with
              | false =>
                have HR : Hid (4 = checkL l m) := by unfold Hid; rw [HE3.out, if_pos hs]
                clear hs
                go_wp2
                go_ret
                exact ⟨ret_int HR.out, hB4⟩
              | true =>
                have hs' : Hid (sortB l = true) := hs
                clear hs
                go_wp2
                go_roundw
                case rel => exact ⟨hB4, .inr (.inl ⟨rfl, hs'.out⟩)⟩
                case measure => simp [intOf]
            · have k := (hB.block _ (heap_lt hg)).trans hg
              obtain ⟨y0, y1⟩ := c2_of k
              have hr := rises_any a2 c2 m _ (h2.below hB) (by have := HLM.out; omega)
              have hsl' : Hid (sortB l = true) := hsl
              clear hsl
              go_wp2_with fail
              refine hr.mono ?_
              clear hr
              rintro e W4 ⟨rfl, hb4⟩
              have hB4 := hB.trans (hb4.mono hB.size)
              clear hb4 hB k y0 y1
              cases hs : sortB m with
              | false =>
                have HR : Hid (4 = checkL l m) := by unfold Hid; rw [HE3.out, if_neg (by rw [hsl'.out]; decide), if_pos hs]
                clear hs
                go_wp2
                go_ret
                exact ⟨ret_int HR.out, hB4⟩
              | true =>
                have hs' : Hid (sortB m = true) := hs
                clear hs
                go_wp2
                go_roundw
                case rel => exact ⟨hB4, .inr (.inr ⟨rfl, hsl'.out, hs'.out⟩)⟩
                case measure => simp [intOf]
            · have HR : Hid (0 = checkL l m) := by unfold Hid; rw [HE3.out, if_neg (by rw [hsl]; decide), if_neg (by rw [hsm]; decide)]
              clear hsl hsm
              go_wp2
              go_ret
              exact ⟨ret_int HR.out, hB⟩
end

section
open Go.RowKit
set_option maxRecDepth 100000

/-! The names of two lists, sorted, each once: plain facts. -/
theorem lists_le {x y : List UInt8} : (decide (x ≤ y)) = true ↔ Op.bytesLess y x = false := by
  rw [decide_eq_true_iff, bytesLess_eq]
  simp only [decide_eq_false_iff_not]
  exact Iff.rfl
abbrev leD (x y : List UInt8) : Bool := decide (x ≤ y)
theorem leD_trans (a b c : List UInt8) (h1 : leD a b = true) (h2 : leD b c = true) : leD a c = true :=
  lists_le.2 (less_ntrans (lists_le.1 h2) (lists_le.1 h1))
theorem leD_total (a b : List UInt8) : (leD a b || leD b a) = true := by
  rw [Bool.or_eq_true]
  cases h : Op.bytesLess b a with
  | false => exact .inl (lists_le.2 h)
  | true =>
    refine .inr (lists_le.2 ?_)
    cases h2 : Op.bytesLess a b with
    | false => rfl
    | true => have := less_trans _ _ _ h h2; rw [less_irrefl] at this; cases this
theorem sort_pair (L : List (List UInt8)) : (L.mergeSort leD).Pairwise (fun a b => leD a b = true) := List.pairwise_mergeSort leD_trans leD_total L
theorem sort_mem {L : List (List UInt8)} {x : List UInt8} : x ∈ L.mergeSort leD ↔ x ∈ L := List.mem_mergeSort
theorem sort_len (L : List (List UInt8)) : (L.mergeSort leD).length = L.length := List.length_mergeSort _

theorem compact_get {d : Array (List UInt8)} : ∀ m, m ≤ d.size → (∀ x ∈ Lib.compactUpTo d m, ∃ j, j < m ∧ x = d[j]!) ∧ ∀ j, j < m → d[j]! ∈ Lib.compactUpTo d m
  | 0, _ => ⟨fun x hx => by simp [Lib.compactUpTo] at hx, fun j hj => absurd hj (Nat.not_lt_zero _)⟩
  | m + 1, hm => by
    obtain ⟨i1, i2⟩ := compact_get (d := d) m (by omega)
    rw [Lib.compactUpTo_succ]
    constructor
    · intro x hx
      rcases List.mem_append.1 hx with hx | hx
      · obtain ⟨j, hj, e⟩ := i1 x hx
        exact ⟨j, by omega, e⟩
      · split at hx
        · exact ⟨m, by omega, List.mem_singleton.1 hx⟩
        · cases hx
    · intro j hj
      by_cases hjm : j < m
      · exact List.mem_append_left _ (i2 j hjm)
      · have e : j = m := by omega
        subst e
        by_cases hk : Lib.keeps d j = true
        · rw [if_pos hk]; exact List.mem_append_right _ (List.mem_singleton.2 rfl)
        · rw [if_neg hk, List.append_nil]
          unfold Lib.keeps at hk
          simp only [decide_eq_true_eq, not_or, Decidable.not_not] at hk
          rw [hk.2]
          exact i2 (j - 1) (by omega)
theorem compact_rise {d : Array (List UInt8)} (hd : ∀ i j, i < j → j < d.size → Op.bytesLess d[j]! d[i]! = false) : ∀ m, m ≤ d.size → (Lib.compactUpTo d m).Pairwise (fun a b => Op.bytesLess a b = true)
  | 0, _ => by simp [Lib.compactUpTo]
  | m + 1, hm => by
    have ih := compact_rise hd m (by omega)
    obtain ⟨i1, _⟩ := compact_get (d := d) m (by omega)
    rw [Lib.compactUpTo_succ]
    by_cases hk : Lib.keeps d m = true
    · rw [if_pos hk, List.pairwise_append]
      refine ⟨ih, by simp, fun a ha b hb => ?_⟩
      rw [List.mem_singleton.1 hb]
      obtain ⟨j, hj, rfl⟩ := i1 a ha
      have hne : d[m]! ≠ d[m - 1]! := by
        unfold Lib.keeps at hk
        simp only [decide_eq_true_eq] at hk
        rcases hk with e | e
        · omega
        · exact e
      have h1 : Op.bytesLess d[m - 1]! d[m]! = true := less_total _ _ (hd (m - 1) m (by omega) (by omega)) hne
      by_cases e : j = m - 1
      · rw [e]; exact h1
      · have h2 := hd j (m - 1) (by omega) (by omega)
        cases h3 : Op.bytesLess d[j]! d[m]! with
        | true => rfl
        | false =>
          have := less_ntrans h2 h3
          rw [h1] at this; cases this
    · rw [if_neg hk, List.append_nil]; exact ih
/-- what comes of sort and compact. -/
def uniqB (L : List (List UInt8)) : List (List UInt8) := Lib.compact (L.mergeSort leD)
theorem uniq_mem {L : List (List UInt8)} {x : List UInt8} : x ∈ uniqB L ↔ x ∈ L := by
  refine Iff.trans ?_ sort_mem
  unfold uniqB Lib.compact
  generalize L.mergeSort leD = M
  obtain ⟨i1, i2⟩ := compact_get (d := M.toArray) M.length (by simp)
  constructor
  · intro h
    obtain ⟨j, hj, rfl⟩ := i1 x h
    rw [getElem!_pos _ j (by simpa using hj)]
    simp
  · intro h
    obtain ⟨j, hj, rfl⟩ := List.mem_iff_getElem.1 h
    have := i2 j hj
    rw [getElem!_pos _ j (by simpa using hj)] at this
    simpa using this
theorem uniq_rise (L : List (List UInt8)) : (uniqB L).Pairwise (fun a b => Op.bytesLess a b = true) := by
  have hp := sort_pair L
  unfold uniqB Lib.compact
  generalize L.mergeSort leD = M at *
  refine compact_rise (fun i j hij hj => ?_) _ (by simp)
  have hj' : j < M.length := by simpa using hj
  rw [getElem!_pos _ j (by simpa using hj'), getElem!_pos _ i (by simp; omega)]
  exact lists_le.1 (List.pairwise_iff_getElem.1 hp i j (by omega) hj' hij)
def bytesOf (b : List UInt8) : ByteArray := ⟨b.toArray⟩
theorem bytesOf_list (x : ByteArray) : bytesOf x.data.toList = x := by cases x; rfl
def namesL2 (l m : List Rf) : List (List UInt8) := (l ++ m).map (fun r => r.name.data.toList)
theorem names_of (l m : List Rf) : NamesOf l m ((uniqB (namesL2 l m)).map bytesOf) := by
  constructor
  · refine List.pairwise_map.2 ((uniq_rise _).imp fun {a b} h => ?_)
    unfold ltN
    rw [ByteArray.toList_eq, ByteArray.toList_eq]
    simpa [bytesOf] using h
  · intro n
    rw [List.mem_map]
    constructor
    · rintro ⟨b, hb, rfl⟩
      rw [uniq_mem] at hb
      obtain ⟨r, hr, rfl⟩ := List.mem_map.1 hb
      exact ⟨r, hr, (bytesOf_list _).symm⟩
    · rintro ⟨r, hr, rfl⟩
      exact ⟨_, uniq_mem.2 (List.mem_map.2 ⟨r, hr, rfl⟩), bytesOf_list _⟩
end
end Go.Proofs.YtehmlpkapjdhkaaDoor
