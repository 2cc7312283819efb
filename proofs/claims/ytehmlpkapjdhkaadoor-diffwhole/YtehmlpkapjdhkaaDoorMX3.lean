import Derived.Test.YtehmlpkapjdhkaaDoorMX1
import Derived.Test.YtehmlpkapjdhkaaDoorMX2
import Derived.Test.YtehmlpkapjdhkaaDoorSh2
import Derived.Lib.RowBridge
import Derived.Test.YtehmlpkapjdhkaaDoorMR
import Derived.Laws.StructEq
import Derived.Test.YtehmlpkapjdhkaaDoorMD
import Derived.RegionIn
import Derived.RangeFuncNested
import Derived.RangeFuncBound
import Derived.RangeFuncCalls
import Derived.RangeFuncLeaves
import Derived.Shelf.Abstract
import Derived.Shelf.RegionOpen
import Derived.OwnWalkIn
import Derived.TacticsInMore
import Derived.LoopNIn
import Derived.LoopIn
import Derived.Deep.RegionHeld
namespace Go.Proofs.YtehmlpkapjdhkaaDoor
section
open Go.RowKit
set_option maxRecDepth 100000

theorem two_blocks (w : World) (A B : Obj) : ((w.alloc A).alloc B).heap[w.heap.size]? = some A ∧ ((w.alloc A).alloc B).heap[w.heap.size + 1]? = some B := by
  have hA2 := below_alloc (w.alloc A) B
  refine ⟨(hA2.block _ (by simp)).trans (heap_alloc_new w _), ?_⟩
  have := heap_alloc_new (w.alloc A) B
  rwa [show (w.alloc A).heap.size = w.heap.size + 1 by simp] at this
end

section
open Go.RowKit
attribute [local go_sem] Oper.semAt_some
set_option maxRecDepth 100000

theorem Tryd.info9 : (Tryd.prog.info? 9).map (fun i => (i.zero, i.size, i.bytes)) = some (some (.string { data := #[] }), 1, 16) := by kernel_rfl
/-- append of a name. -/
theorem app_str (w : World) (base : Nat) (ty : TypeId) (v : Value) (xs : List ByteArray) (hown : w.ownsRow base 9 1 v xs.length (xs.map Value.string)) (vb : Nat) (s : ByteArray) (hv : w.heap[vb]? = some (.cells #[.string s] 9)) (hlen : xs.length ≤ 1000) (hbase : base ≤ w.heap.size) :
    ∃ v' w', (Builtin.append_ #[59, 59] ty #[v, .slice (some ⟨vb, 0, none⟩) 1 1]).run Tryd.prog w = .ok v' w' ∧ w'.ownsRow base 9 1 v' (xs ++ [s]).length ((xs ++ [s]).map Value.string) ∧ w.grownBy w' v.ownBlock := by
  obtain ⟨i0, hi0, hz0, hzs, hzb⟩ := info_parts Tryd.info9
  obtain ⟨v', w', hr, q1, q2, _⟩ := run_append_own (P := Tryd.prog) w base 59 ty 9 i0 _ 1 16 Tryd.underlying59 hi0 hz0 hzs hzb rfl (by omega) v xs.length (xs.map Value.string) hown ⟨vb, 0, none⟩ 1 1 [.string s] rfl
    (World.news_of_block hv) (by intro u hu; rw [List.mem_singleton.1 hu]; rfl) (by unfold maxLen; omega) (by omega) hbase
  exact ⟨v', w', hr, by rw [List.length_append, List.map_append]; exact q1, q2⟩

theorem putStr_block (w : World) (n g : Nat) (d : Array (List UInt8)) (cur : Array Value) (t : TypeId) (os : Array Obj) (hg : w.heap[g]? = some (.cells cur t)) (hs : d.size ≤ cur.size) :
    ∃ cur', (Sort.grow (Sort.putRow encStr (Sort.ahead w n) g 0 d) os).heap[g]? = some (.cells cur' t) ∧ cur'.size = cur.size ∧ ∀ j, j < d.size → cur'[j]? = some (encStr d[j]!) := by
  refine ⟨Sort.putCells encStr 0 d cur, ?_, by simp [Sort.putCells], fun j hj => ?_⟩
  · rw [Sort.heap_grow_old _ _ (by simpa using heap_lt hg)]
    show ((w.heap.modify g (Sort.onCells (Sort.putCells encStr 0 d))))[g]? = _
    rw [Array.getElem?_modify, if_pos rfl, hg]
    rfl
  · simp only [Sort.putCells, Array.getElem?_mapIdx]
    rw [Array.getElem?_eq_getElem (by omega)]
    simp [hj]
theorem putStr_grown (w : World) (n g : Nat) (d : Array (List UInt8)) (os : Array Obj) : w.grownBy (Sort.grow (Sort.putRow encStr (Sort.ahead w n) g 0 d) os) (some g) := by
  refine ⟨rfl, rfl, rfl, by simp, fun k hk hne => ?_⟩
  rw [Sort.heap_grow_old _ _ (by simpa using hk)]
  show ((w.heap.modify g (Sort.onCells (Sort.putCells encStr 0 d))))[k]? = _
  rw [Array.getElem?_modify, if_neg (fun e => hne (by rw [e]))]
theorem holdsE {w : World} {g : Nat} {cur : Array Value} {t : TypeId} {d : Array (List UInt8)} (hg : w.heap[g]? = some (.cells cur t)) (hc : ∀ j, j < d.size → cur[j]? = some (encStr d[j]!)) : Sort.Holds encStr w g 0 d := by
  intro j hj
  refine ⟨?_, by simp [World.frozen?, hg]⟩
  rw [cell_of_row w g _ _ _ _ hg, Nat.zero_add]
  exact hc j hj
theorem own_any_slice {w : World} {z : Nat} {e : TypeId} {size : Nat} {v : Value} {n : Nat} {xs : List Value} (h : w.ownsRow z e size v n xs) : ∃ a c, v = .slice a n c := by
  rcases h.2 with ⟨rfl, e⟩ | ⟨g, cap, _, e, _⟩
  · exact ⟨_, _, by rw [e]⟩
  · exact ⟨_, _, e⟩
theorem uniq_len (L : List (List UInt8)) : (Lib.compact (L.mergeSort leD)).length ≤ L.length := by
  have h := Lib.compact_length_le (L.mergeSort leD)
  rwa [sort_len] at h

set_option maxHeartbeats 4000000 in
theorem names2_any (a1 : Option Addr) (c1 : Nat) (l : List Rf) (a2 : Option Addr) (c2 : Nat) (m : List Rf) (g : Nat) (w : World) (hg : w.heap[g]? = some (two34 a1 l.length c1 a2 m.length c2)) (h1 : HoldsR w a1 l) (h2 : HoldsR w a2 m) (hl : l.length ≤ 8) (hm : m.length ≤ 8) :
    Calls Tryd.prog 28 #[.slice (some ⟨g, 0, none⟩) 2 2] w fun e w' => ∃ ns a c, e = .returned (.slice a ns.length c) ∧ HoldsT w' a ns ∧ NamesOf l m ns ∧ ns.length ≤ 16 ∧ Below w.heap.size w w' := by
  have hc := concat_any a1 c1 l a2 c2 m g w hg h1 h2 hl hm
  go_enter Tryd.func28, Tryd.ntmps28
  go_wp2_with fail
  refine hc.mono ?_
  clear hc
  rintro e w1 ⟨a3, c3, rfl, h3, hb1⟩
  obtain ⟨M, hM⟩ : ∃ M, l ++ m = M := ⟨_, rfl⟩
  have HN : Hid (NamesOf l m ((uniqB (M.map (fun r => r.name.data.toList))).map bytesOf)) := by rw [← hM]; exact names_of l m
  have HL : Hid (M.length ≤ 16) := by have := congrArg List.length hM; simp at this; show M.length ≤ 16; omega
  rw [hM] at h3 ⊢
  clear hM
  go_wp2_with fail
  go_loopw [3, 9] (fun v i wr => ∃ (k : Nat) (v0 : Value), v = v0 ∧ i = .int .i64 k ∧ k ≤ M.length ∧ Below w1.heap.size w1 wr ∧ wr.ownsRow w1.heap.size 9 1 v0 ((M.take k).map Rf.name).length (((M.take k).map Rf.name).map Value.string)) (fun _ i _ => M.length - (intOf i).toNat)
  case atStart => exact ⟨0, _, rfl, rfl, Nat.zero_le _, Below.refl _ _, World.ownsRow_nil _ _ _ _⟩
  case round =>
    obtain ⟨k, v, rfl, rfl, hk, hB, O⟩ := hrel
    by_cases hlt : k < M.length
    · obtain ⟨b, off, rfl, hb, hc⟩ := (h3.below hB) k hlt
      obtain ⟨x0, x1⟩ := hc k hlt
      have hA := below_alloc wr (.cells #[.string M[k].name, .int .i64 M[k].id] 43)
      have hn := heap_alloc_new wr (.cells #[.string M[k].name, .int .i64 M[k].id] 43)
      obtain ⟨z0, z1⟩ := c2_of hn
      have hk16 : k < 16 := by have := HL.out; omega
      have hB2 := hB.trans (hA.mono hB.size)
      have O2 := ownsRow_below O hA
      have hA3 := below_alloc (wr.alloc (.cells #[.string M[k].name, .int .i64 M[k].id] 43)) (.cells #[.string M[k].name] 9)
      obtain ⟨_, hv⟩ := two_blocks wr (.cells #[.string M[k].name, .int .i64 M[k].id] 43) (.cells #[.string M[k].name] 9)
      have hB3 := hB2.trans (hA3.mono hB2.size)
      have O3 := ownsRow_below O2 hA3
      obtain ⟨v', w4, hr, O4, g4⟩ := app_str _ w1.heap.size 59 _ ((M.take k).map Rf.name) O3 _ M[k].name hv (by rw [List.length_map, List.length_take]; omega) hB3.size
      have hB4 := hB3.trans ((own_grown O3 g4 hB3.size).mono (Nat.le_refl _))
      have HO : Hid (w4.ownsRow w1.heap.size 9 1 v' ((M.take (k + 1)).map Rf.name).length (((M.take (k + 1)).map Rf.name).map Value.string)) := by
        have e : (M.take (k + 1)).map Rf.name = (M.take k).map Rf.name ++ [M[k].name] := by
          rw [List.take_succ_eq_append_getElem hlt, List.map_append]; rfl
        unfold Hid
        rw [e]; exact O4
      have HB : Hid (Below w1.heap.size w1 w4) := hB4
      clear hc hn hA O O2 O3 O4 hA3 hv hB2 hB3 g4 hB4 hB
      go_wp2_with (at_builtin; refine Lib.wpList_append_run _ rfl _ _ 59 59 rfl _ _ rfl rfl _ _ hr ?_)
      go_roundw
      case rel => exact ⟨k + 1, _, rfl, by go_num, by omega, HB.out, HO.out⟩
      case measure => simp [intOf]; omega
    · have hkM : k = M.length := by omega
      subst hkM
      have e2 : (M.take M.length).map Rf.name = M.map Rf.name := by rw [List.take_length]
      rw [e2] at O
      clear e2 hlt hk
      have hBw := hb1.trans (hB.mono hb1.size)
      obtain ⟨L, hL⟩ : ∃ L, M.map (fun r => r.name.data.toList) = L := ⟨_, rfl⟩
      have hLM : Hid (L = (M.map Rf.name).map (fun s => s.data.toList)) := by rw [← hL]; show _ = _; rw [List.map_map]; rfl
      have hLl : L.length = M.length := by rw [← hL, List.length_map]
      rw [hL] at HN
      have hns : Hid (((uniqB L).map bytesOf).length ≤ 16) := by
        show ((uniqB L).map bytesOf).length ≤ 16
        rw [List.length_map]
        have := uniq_len L
        have := HL.out
        unfold uniqB; omega
      have hz1 := hB.size
      rw [List.length_map] at O
      clear hL
      by_cases h0 : M.length = 0
      · obtain ⟨a, c, rfl⟩ := own_any_slice O
        rw [h0]
        have hs := Tryd.slices_Sort_string_none a c wr
        have hc := Tryd.slices_Compact_string_empty a c wr
        have HU : Hid ((uniqB L).map bytesOf = []) := by
          unfold Hid
          apply List.eq_nil_of_length_eq_zero
          rw [List.length_map]
          have := uniq_len L
          unfold uniqB; omega
        clear O h0 hLl
        go_wp2_with fail
        refine hs.mono ?_
        clear hs
        rintro e w5 ⟨rfl, rfl⟩
        go_wp2_with fail
        refine hc.mono ?_
        clear hc
        rintro e w5 ⟨rfl, rfl⟩
        go_wp2
        go_ret
        exact ⟨[], a, c, rfl, fun i hi => absurd hi (Nat.not_lt_zero _), by rw [← HU.out]; exact HN.out, Nat.zero_le _, hBw⟩
      · obtain ⟨q0, qv⟩ := O
        rcases qv with ⟨_, e⟩ | ⟨g', cap, cur, rfl, q1, q2, q3, q4, q5, q6⟩
        · exact absurd e h0
        have hH : Sort.Holds encStr wr g' 0 L.toArray := by
          refine holdsE q2 fun j hj => ?_
          have hj' : j < L.length := by simpa using hj
          have h7 := congrArg (fun l => l[j]?) q6
          simp only [List.getElem?_take] at h7
          rw [if_pos (by omega)] at h7
          rw [getElem!_pos _ j hj]
          rw [Array.getElem?_toList] at h7
          rw [h7]
          have h8 : L[j]? = ((M.map Rf.name).map (fun s => s.data.toList))[j]? := by rw [hLM.out]
          rw [List.getElem?_eq_getElem hj'] at h8
          simp only [List.getElem?_map] at h8 ⊢
          cases hM : M[j]? with
          | none => rw [hM] at h8; cases h8
          | some r =>
            rw [hM] at h8
            simp only [Option.map_some, Option.some.injEq] at h8
            simp only [Option.map_some, List.getElem_toArray, h8, encStr]
        have hL16 := HL.out
        have hs := Tryd.slices_Sort_string g' 0 cap L wr hH (heap_lt q2) (by omega)
        rw [hLl] at hs
        have hcur : M.length ≤ cur.size := by omega
        have hcap : M.length ≤ cap := q3
        obtain ⟨Z, hZ⟩ : ∃ Z, L.mergeSort leD = Z := ⟨_, rfl⟩
        have hZl : Z.length = M.length := by rw [← hZ, sort_len, hLl]
        have HZ : Hid (uniqB L = Lib.compact Z) := by unfold Hid uniqB; rw [hZ]
        have hs2 : Calls Tryd.prog 43 #[.slice (some ⟨g', 0, none⟩) M.length cap] wr fun e w' => e = .returned (.tuple #[]) ∧ ∃ cur2, w'.heap[g']? = some (.cells cur2 9) ∧ cur2.size = cur.size ∧ (∀ j, j < Z.toArray.size → cur2[j]? = some (encStr Z.toArray[j]!)) ∧ Below w1.heap.size wr w' := by
          refine hs.mono ?_
          rintro e w5 ⟨rfl, n5, os5, rfl⟩
          have e1 : (L.mergeSort fun x y => decide (x ≤ y)) = Z := hZ
          rw [e1]
          obtain ⟨cur2, t1, t2, t3⟩ := putStr_block wr n5 g' Z.toArray cur 9 os5 q2 (by rw [List.size_toArray]; omega)
          have hg := putStr_grown wr n5 g' Z.toArray os5
          exact ⟨rfl, cur2, t1, t2, t3, ⟨hg.os, hg.tape, hg.output, hg.size, fun k hk => hg.block k (by omega) (fun e => by cases e; omega)⟩⟩
        clear hs q0 q6 q2 q5 hH hZ
        go_wp2_with fail
        refine hs2.mono ?_
        clear hs2
        rintro e w5 ⟨rfl, cur2, t1, t2, t3, hb5⟩
        have hB5 := hB.trans (hb5.mono (Nat.le_refl _))
        clear hb5 hB hBw hz1
        have hH5 := holdsE t1 t3
        have hc := Tryd.slices_Compact_string g' 0 cap Z w5 hH5 (by omega) (by omega)
        rw [hZl] at hc
        have hcl : (Lib.compact Z).length ≤ Z.length := Lib.compact_length_le Z
        have hc2 : Calls Tryd.prog 44 #[.slice (some ⟨g', 0, none⟩) M.length cap] w5 fun e w' => e = .returned (.slice (some ⟨g', 0, none⟩) ((Lib.compact Z).map bytesOf).length cap) ∧ HoldsT w' (some ⟨g', 0, none⟩) ((Lib.compact Z).map bytesOf) ∧ Below w1.heap.size w5 w' := by
          refine hc.mono ?_
          rintro e w6 ⟨rfl, n6, rfl⟩
          generalize hD : (Lib.compact Z ++ List.replicate (M.length - (Lib.compact Z).length) []).toArray = D
          have hDs : D.size = M.length := by rw [← hD, List.size_toArray, List.length_append, List.length_replicate]; omega
          obtain ⟨cur3, u1, u2, u3⟩ := putStr_block w5 n6 g' D cur2 9 #[] t1 (by omega)
          have hg := putStr_grown w5 n6 g' D #[]
          rw [Sort.grow_empty] at u1 hg
          refine ⟨by rw [List.length_map], fun i hi => ⟨g', 0, rfl, heap_lt u1, fun j hj => ?_⟩, ⟨hg.os, hg.tape, hg.output, hg.size, fun k hk => hg.block k (by have := hB5.size; omega) (fun e => by cases e; omega)⟩⟩
          have hj' : j < (Lib.compact Z).length := by simpa using hj
          rw [Nat.zero_add, cell_of_row _ g' _ _ _ _ u1, u3 j (by omega)]
          rw [getElem!_pos _ j (by omega)]
          simp only [← hD, List.getElem_toArray, List.getElem_map]
          rw [List.getElem_append_left hj']
          rfl
        clear hc hH5
        rw [HZ.out] at HN hns
        generalize (Lib.compact Z).map bytesOf = ns at *
        go_wp2_with fail
        refine hc2.mono ?_
        clear hc2
        rintro e w6 ⟨rfl, hT, hb6⟩
        have hB6 := hb1.trans ((hB5.trans (hb6.mono (Nat.le_refl _))).mono hb1.size)
        clear hb6 hB5
        go_wp2
        go_ret
        exact ⟨ns, _, _, rfl, hT, HN.out, hns.out, hB6⟩
end

section
open Go.RowKit
attribute [local go_sem] Oper.semAt_some
set_option maxRecDepth 100000

/-- append of an update. -/
theorem app_up1 (w : World) (base : Nat) (ty : TypeId) (v : Value) (xs : List Up) (hown : w.ownsRow base 46 3 v xs.length (rowU xs)) (vb : Nat) (u : Up) (hv : w.heap[vb]? = some (.cells #[.string u.name, .int .i64 u.old, .int .i64 u.new] 46)) (hlen : xs.length ≤ 1000) (hbase : base ≤ w.heap.size) :
    ∃ v' w', (Builtin.append_ #[37, 37] ty #[v, .slice (some ⟨vb, 0, none⟩) 1 1]).run Tryd.prog w = .ok v' w' ∧ w'.ownsRow base 46 3 v' (xs ++ [u]).length (rowU (xs ++ [u])) ∧ w.grownBy w' v.ownBlock := by
  obtain ⟨i0, hi0, hz0, hzs, hzb⟩ := info_parts Tryd.info46
  obtain ⟨v', w', hr, q1, q2, _⟩ := run_append_own (P := Tryd.prog) w base 37 ty 46 i0 _ 3 32 Tryd.underlying37 hi0 hz0 hzs hzb rfl (by omega) v xs.length (rowU xs) hown ⟨vb, 0, none⟩ 1 1 [.string u.name, .int .i64 u.old, .int .i64 u.new] rfl
    (World.news_of_block hv) (by intro u hu; simp only [List.mem_cons, List.not_mem_nil, or_false] at hu; rcases hu with rfl | rfl | rfl <;> rfl) (by unfold maxLen; omega) (by omega) hbase
  exact ⟨v', w', hr, by rw [List.length_append, rowU_append]; exact q1, q2⟩

def RfPost (l m : List Rf) (w : World) (e : Ending) (w' : World) : Prop :=
  Below w.heap.size w w' ∧ ((checkL l m ≠ 0 ∧ e = .returned (.tuple #[.slice none 0 0, .int .i64 (checkL l m)])) ∨
    (checkL l m = 0 ∧ ∃ ns a c, e = .returned (.tuple #[.slice a (leadL l m ns).length c, .int .i64 0]) ∧ NamesOf l m ns ∧ HoldsU w' a (leadL l m ns) ∧ (leadL l m ns).length ≤ 16 ∧ w'.ownsRow w.heap.size 46 3 (.slice a (leadL l m ns).length c) (leadL l m ns).length (rowU (leadL l m ns))))

set_option maxHeartbeats 4000000 in
theorem drefs_any (a1 : Option Addr) (c1 : Nat) (l : List Rf) (a2 : Option Addr) (c2 : Nat) (m : List Rf) (w : World) (hG : Glob w) (h1 : HoldsR w a1 l) (h2 : HoldsR w a2 m) :
    Calls Tryd.prog 14 #[.slice a1 l.length c1, .slice a2 m.length c2] w (RfPost l m w) := by
  obtain ⟨PO, HPO⟩ : ∃ P : Ending → World → Prop, Hid (P = RfPost l m w) := ⟨_, rfl⟩
  rw [← HPO.out]
  have hA := below_alloc w (two34 a1 l.length c1 a2 m.length c2)
  have kg := heap_alloc_new w (two34 a1 l.length c1 a2 m.length c2)
  have hc := dcheck_any a1 c1 l a2 c2 m _ _ (hG.below hA) kg (h1.below hA) (h2.below hA)
  go_enter Tryd.func14, Tryd.ntmps14
  go_wp2_with fail
  refine hc.mono ?_
  clear hc
  rintro e w1 ⟨rfl, hb1⟩
  have hB1 := hA.trans (hb1.mono hA.size)
  clear hb1 hA kg
  by_cases e1 : checkL l m = 0
  case neg =>
    have HF : Hid (∀ w', Below w.heap.size w w' → PO (.returned (.tuple #[.slice none 0 0, .int .i64 (checkL l m)])) w') := fun w' hb => by
      rw [HPO.out]; exact ⟨hb, .inl ⟨e1, rfl⟩⟩
    have q1 : (checkL l m != 0) = true := by simpa using e1
    clear e1
    generalize checkL l m = E at *
    go_wp2
    exact HF.out _ hB1
  have HE : Hid (checkL l m = 0) := e1
  rw [e1]
  obtain ⟨hl8, hm8, _⟩ := checkL_zero.1 e1
  clear e1
  have hA := below_alloc w1 (two34 a1 l.length c1 a2 m.length c2)
  have kg := heap_alloc_new w1 (two34 a1 l.length c1 a2 m.length c2)
  have hB2 := hB1.trans (hA.mono hB1.size)
  have hc := names2_any a1 c1 l a2 c2 m _ _ kg (h1.below hB2) (h2.below hB2) hl8 hm8
  clear kg
  go_wp2_with fail
  refine hc.mono ?_
  clear hc
  rintro e w2 ⟨ns, a3, c3, rfl, hT, hN, hn16, hb2⟩
  have hB3 := hB2.trans (hb2.mono hB2.size)
  have HN : Hid (NamesOf l m ns ∧ ns.length ≤ 16) := ⟨hN, hn16⟩
  clear hb2 hA hB1 hB2 hN
  go_wp2_with fail
  go_loopw [7, 26] (fun v i wr => ∃ (k : Nat) (v0 : Value), v = v0 ∧ i = .int .i64 k ∧ k ≤ ns.length ∧ Below w2.heap.size w2 wr ∧ wr.ownsRow w2.heap.size 46 3 v0 (leadL l m (ns.take k)).length (rowU (leadL l m (ns.take k)))) (fun _ i _ => ns.length - (intOf i).toNat)
  case atStart => exact ⟨0, _, rfl, rfl, Nat.zero_le _, Below.refl _ _, World.ownsRow_nil _ _ _ _⟩
  case round =>
    obtain ⟨k, v, rfl, rfl, hk, hB, O⟩ := hrel
    have hBw := hB3.trans (hB.mono hB3.size)
    by_cases hlt : k < ns.length
    · obtain ⟨b, off, rfl, hb, hc⟩ := (hT.below hB) k hlt
      have x0 := hc k hlt
      have hg1 := get_any a2 c2 m ns[k] wr (hG.below hBw) (h2.below hBw) (by omega)
      have HT : Hid (leadL l m (ns.take (k + 1)) = leadL l m (ns.take k) ++ (leadU l m ns[k]).toList) := lead_take hlt
      have HU : Hid (leadU l m ns[k] = if getE m ns[k] ≠ getE l ns[k] ∨ getI m ns[k] ≠ getI l ns[k] then some ⟨ns[k], getI m ns[k], getI l ns[k]⟩ else none) := rfl
      have hll : (leadL l m (ns.take k)).length ≤ 16 := by
        have := lead_length l m (ns.take k); rw [List.length_take] at this; omega
      clear hc
      go_wp2_with fail
      refine hg1.mono ?_
      clear hg1
      rintro e w3 ⟨rfl, hb3⟩
      have hB4 := hB.trans (hb3.mono hB.size)
      have hBw4 := hB3.trans (hB4.mono hB3.size)
      have O3 := ownsRow_below O hb3
      have hg1 := get_any a1 c1 l ns[k] w3 (hG.below hBw4) (h1.below hBw4) (by omega)
      clear O hb3 hB hBw hBw4
      go_wp2_with fail
      refine hg1.mono ?_
      clear hg1
      rintro e w4 ⟨rfl, hb4⟩
      have hB5 := hB4.trans (hb4.mono hB4.size)
      have O4 := ownsRow_below O3 hb4
      clear O3 hb4 hB4 x0
      generalize ns[k] = n at *
      by_cases hd : getE m n ≠ getE l n ∨ getI m n ≠ getI l n
      · have HU2 : Hid (leadU l m n = some ⟨n, getI m n, getI l n⟩) := by unfold Hid; rw [HU.out, if_pos hd]
        have hA := below_alloc w4 (.cells #[.string n, .int .i64 (getI m n), .int .i64 (getI l n)] 46)
        have hv := heap_alloc_new w4 (.cells #[.string n, .int .i64 (getI m n), .int .i64 (getI l n)] 46)
        have hB6 := hB5.trans (hA.mono hB5.size)
        obtain ⟨v', w5, hr, O5, g5⟩ := app_up1 _ w2.heap.size 37 _ (leadL l m (ns.take k)) (ownsRow_below O4 hA) _ ⟨n, getI m n, getI l n⟩ hv (by omega) hB6.size
        have HB : Hid (Below w2.heap.size w2 w5) := hB6.trans ((own_grown (ownsRow_below O4 hA) g5 hB6.size).mono (Nat.le_refl _))
        have HO : Hid (w5.ownsRow w2.heap.size 46 3 v' (leadL l m (ns.take (k + 1))).length (rowU (leadL l m (ns.take (k + 1))))) := by
          unfold Hid
          rw [HT.out, HU2.out]; exact O5
        clear O5 g5 hB6 hv hA O4 hB5 HU HU2 HT
        obtain ⟨E1, hE1⟩ : ∃ E1, E1 = getE m n := ⟨_, rfl⟩
        obtain ⟨E2, hE2⟩ : ∃ E2, E2 = getE l n := ⟨_, rfl⟩
        obtain ⟨I1, hI1⟩ : ∃ I1, I1 = getI m n := ⟨_, rfl⟩
        obtain ⟨I2, hI2⟩ : ∃ I2, I2 = getI l n := ⟨_, rfl⟩
        rw [← hE1, ← hE2, ← hI1, ← hI2] at hd
        rw [← hI1, ← hI2] at hr
        rw [← hE1, ← hE2, ← hI1, ← hI2]
        clear hE1 hE2 hI1 hI2
        by_cases he : E1 = E2
        · subst he
          have hi : (I1 != I2) = true := by simpa using hd
          clear hd
          go_wp2_with (at_builtin; refine Lib.wpList_append_run _ rfl _ _ 37 37 rfl _ _ rfl rfl _ _ hr ?_)
          go_roundw
          case rel => exact ⟨k + 1, _, rfl, by go_num, by omega, HB.out, HO.out⟩
          case measure => simp [intOf]; omega
        · have hi : (E1 != E2) = true := by simpa using he
          clear hd he
          go_wp2_with (at_builtin; refine Lib.wpList_append_run _ rfl _ _ 37 37 rfl _ _ rfl rfl _ _ hr ?_)
          go_roundw
          case rel => exact ⟨k + 1, _, rfl, by go_num, by omega, HB.out, HO.out⟩
          case measure => simp [intOf]; omega
      · have HU2 : Hid (leadU l m n = none) := by unfold Hid; rw [HU.out, if_neg hd]
        obtain ⟨aX, cX, rfl⟩ := own_any_slice O4
        have HO : Hid (w4.ownsRow w2.heap.size 46 3 (.slice aX (leadL l m (ns.take k)).length cX) (leadL l m (ns.take (k + 1))).length (rowU (leadL l m (ns.take (k + 1))))) := by
          unfold Hid
          rw [HT.out, HU2.out, Option.toList_none, List.append_nil]; exact O4
        have HD : getE m n = getE l n ∧ getI m n = getI l n := by
          constructor
          · exact Classical.byContradiction fun e => hd (.inl e)
          · exact Classical.byContradiction fun e => hd (.inr e)
        rw [HD.1, HD.2]
        clear O4 hd HU HU2 HT HD
        generalize getE l n = E1
        generalize getI l n = I1
        go_wp2
        go_roundw
        case rel => exact ⟨k + 1, _, rfl, by go_num, by omega, hB5, HO.out⟩
        case measure => simp [intOf]; omega
    · have hkM : k = ns.length := by omega
      subst hkM
      rw [List.take_length] at O
      have o2 := ownsRow_from O hB3.size
      obtain ⟨a', c', rfl, hU, _⟩ := ownU_reads O
      have HF : Hid (PO (.returned (.tuple #[.slice a' (leadL l m ns).length c', .int .i64 0])) wr) := by
        unfold Hid
        rw [HPO.out]
        have := lead_length l m ns
        exact ⟨hBw, .inr ⟨HE.out, ns, a', c', rfl, HN.out.1, hU, by have := HN.out.2; omega, o2⟩⟩
      clear O o2 hU
      go_wp2
      exact HF.out
end

section
open Go.RowKit
set_option maxRecDepth 100000

def sameU3 (x y : Up) : Bool := x.name.toList == y.name.toList && x.old == y.old && x.new == y.new
theorem neqU2 (n1 n2 : ByteArray) (i1 i2 j1 j2 : Int) (w : World) : (binOp .neq 46 (.agg #[.string n1, .int .i64 i1, .int .i64 j1]) (.agg #[.string n2, .int .i64 i2, .int .i64 j2])).run Tryd.prog w = .ok (.bool (!sameU3 ⟨n1, i1, j1⟩ ⟨n2, i2, j2⟩)) w := by
  have u3 := Tryd.underlying3
  have a3 := Tryd.isAgg3
  have z3 := Tryd.sizeOf3
  have u9 := Tryd.underlying9
  have a9 := Tryd.isAgg9
  have z9 := Tryd.sizeOf9
  have hS : Tryd.prog.underlying 46 = some (.struct (Tryd.prog.fieldsOf 46)) := by kernel_rfl
  have hp : Tryd.prog.stoodInHeld 46 = false := by kernel_rfl
  rw [run_neq_struct, show (10000 : Nat) = 9999 + 1 from rfl, run_equalIn_agg w 9999 46 _ _ hS hp]
  simp only [Program.fieldsOf, Tryd.underlying46]
  go_simp
  unfold sameU3
  by_cases h1 : n1.toList = n2.toList <;> by_cases h2 : i1 = i2 <;> by_cases h3 : j1 = j2 <;> simp [h1, h2, h3]
theorem sameU3_iff {x y : Up} : sameU3 x y = true ↔ x = y := by
  unfold sameU3
  constructor
  · intro h
    simp only [Bool.and_eq_true, beq_iff_eq] at h
    cases x; cases y
    simp only [Up.mk.injEq]
    exact ⟨ByteArray.ext (Array.toList_inj.1 (by simpa [ByteArray.toList_eq] using h.1.1)), h.1.2, h.2⟩
  · rintro rfl; simp
theorem bool_no {b : Bool} {P : Prop} (h : b = true ↔ P) (hP : ¬ P) : b = false := by
  cases b
  · rfl
  · exact absurd (h.1 rfl) hP

set_option maxHeartbeats 2000000 in
theorem sameUps_any (a : Option Addr) (c : Nat) (l : List Up) (a2 : Option Addr) (c2 : Nat) (l2 : List Up) (w : World) (h : HoldsU w a l) (h2 : HoldsU w a2 l2) (hl : l.length ≤ 9223372036854775807) :
    Calls Tryd.prog 16 #[.slice a l.length c, .slice a2 l2.length c2] w fun e w' => ∃ r, e = .returned (.bool r) ∧ (r = true ↔ l = l2) ∧ Below w.heap.size w w' := by
  by_cases hn : l.length = l2.length
  case neg =>
    have zn : ((l.length : Int) != (l2.length : Int)) = true := by simpa using (by omega : ¬ ((l.length : Int) = (l2.length : Int)))
    have HN : Hid (¬ l = l2) := fun e => hn (by rw [e])
    clear hn
    go_enter Tryd.func16, Tryd.ntmps16
    go_wp2
    go_ret
    exact ⟨false, rfl, ⟨fun e => (by cases e), fun e => absurd e HN.out⟩, Below.refl _ _⟩
  rw [← hn]
  have HN : Hid (l.length = l2.length) := hn
  clear hn
  go_enter Tryd.func16, Tryd.ntmps16
  go_wp2
  go_loopw [5] (fun i wr => ∃ k : Nat, i = .int .i64 k ∧ k ≤ l.length ∧ Below w.heap.size w wr ∧ Hid (∀ j (h1 : j < l.length) (h2 : j < l2.length), j < k → l[j] = l2[j])) (fun i _ => l.length - (intOf i).toNat)
  case atStart => exact ⟨0, rfl, Nat.zero_le _, Below.refl _ _, fun j _ _ h => by omega⟩
  case round =>
    obtain ⟨k, rfl, hk, hB, HE⟩ := hrel
    by_cases hlt : k < l.length
    · have hlt' : (k : Int) < (l.length : Int) := by omega
      have hk2 : k < l2.length := by have := HN.out; omega
      obtain ⟨b, off, rfl, hb, hc⟩ := (h.below hB) k hlt
      obtain ⟨b2, off2, rfl, hb2, hc2⟩ := (h2.below hB) k hk2
      obtain ⟨x0, x1, x2⟩ := hc k hlt
      obtain ⟨y0, y1, y2⟩ := hc2 k hk2
      have HI : Hid (l[k] = l2[k] ∨ ¬ l[k] = l2[k]) := Classical.em _
      have HNX : Hid (l[k] = l2[k] → ∀ j (h1 : j < l.length) (h2 : j < l2.length), j < k + 1 → l[j] = l2[j]) := fun e j h1 h2 hj => by
        rcases Nat.lt_or_ge j k with q | q
        · exact HE.out j h1 h2 q
        · have : j = k := by omega
          subst this; exact e
      have HNO : Hid (¬ l[k] = l2[k] → ¬ l = l2) := fun e q => e (by subst q; rfl)
      have HS : Hid (∀ (_ : l[k] = l2[k]), sameU3 ⟨l[k].name, l[k].old, l[k].new⟩ ⟨l2[k].name, l2[k].old, l2[k].new⟩ = true) := fun e => (sameU3_iff (x := l[k]) (y := l2[k])).2 e
      have HT : Hid (∀ (_ : ¬ l[k] = l2[k]), sameU3 ⟨l[k].name, l[k].old, l[k].new⟩ ⟨l2[k].name, l2[k].old, l2[k].new⟩ = false) := fun e => bool_no (sameU3_iff (x := l[k]) (y := l2[k])) e
      have hgd := fun op a b w => run_eqGuard_agg (P := Tryd.prog) w op 46 a b #[.string l[k].name, .int .i64 l[k].old, .int .i64 l[k].new] #[.string l2[k].name, .int .i64 l2[k].old, .int .i64 l2[k].new] (by kernel_rfl)
      have hq := neqU2 l[k].name l2[k].name l[k].old l2[k].old l[k].new l2[k].new
      clear hc hc2 h h2
      go_wp2_with fail
      have hdr := (Below.refl wr.heap.size wr).drew
      have hBD := hB.trans (hdr.mono hB.size)
      have hS0 : ( (wr.drew.cell? ⟨b, off + k * 3, none⟩ = some (.string l[k].name) ∧ wr.drew.cell? ⟨b, off + k * 3 + 1, none⟩ = some (.int .i64 l[k].old) ∧ wr.drew.cell? ⟨b, off + k * 3 + 2, none⟩ = some (.int .i64 l[k].new)) ∧ (wr.drew.cell? ⟨b2, off2 + k * 3, none⟩ = some (.string l2[k].name) ∧ wr.drew.cell? ⟨b2, off2 + k * 3 + 1, none⟩ = some (.int .i64 l2[k].old) ∧ wr.drew.cell? ⟨b2, off2 + k * 3 + 2, none⟩ = some (.int .i64 l2[k].new))) := ⟨⟨x0, x1, x2⟩, ⟨y0, y1, y2⟩⟩
      refine wp_region_E (fun W => (W.cell? ⟨b, off + k * 3, none⟩ = some (.string l[k].name) ∧ W.cell? ⟨b, off + k * 3 + 1, none⟩ = some (.int .i64 l[k].old) ∧ W.cell? ⟨b, off + k * 3 + 2, none⟩ = some (.int .i64 l[k].new)) ∧ (W.cell? ⟨b2, off2 + k * 3, none⟩ = some (.string l2[k].name) ∧ W.cell? ⟨b2, off2 + k * 3 + 1, none⟩ = some (.int .i64 l2[k].old) ∧ W.cell? ⟨b2, off2 + k * 3 + 2, none⟩ = some (.int .i64 l2[k].new))) (fun _ => false) (by kernel_rfl) hS0 (fun hS => ?_)
      generalize wr.drew = W0 at *
      clear hS0 hdr hB x0 x1 x2 y0 y1 y2
      refine wpAnyE.take (i := 0) (v := ?_) rfl (by kernel_rfl) (by kernel_rfl) (by kernel_rfl) (by kernel_rfl) (fun _ _ _ h => h) (Or.inl ⟨by rfl, ?_⟩) (by assumption) ?_
      rotate_left
      · intro w hSw; obtain ⟨⟨z0, z1, z2⟩, ⟨u0, u1, u2⟩⟩ := hSw; go_simp; with_reducible rfl
      try simp only [Act.put, List.getElem_toArray, List.getElem_cons_zero, List.setIfInBounds_toArray, List.set_cons_zero, List.set_cons_succ]
      refine wpAnyE.take (i := 1) (v := ?_) rfl (by kernel_rfl) (by kernel_rfl) (by kernel_rfl) (by kernel_rfl) (fun _ _ _ h => h) (Or.inl ⟨by rfl, ?_⟩) (by assumption) ?_
      rotate_left
      · intro w hSw; obtain ⟨⟨z0, z1, z2⟩, ⟨u0, u1, u2⟩⟩ := hSw; go_simp; with_reducible rfl
      try simp only [Act.put, List.getElem_toArray, List.getElem_cons_succ, List.getElem_cons_zero, List.setIfInBounds_toArray, List.set_cons_zero, List.set_cons_succ]
      refine wpAnyE.take (i := 2) (v := ?_) rfl (by kernel_rfl) (by kernel_rfl) (by kernel_rfl) (by kernel_rfl) (fun _ _ _ h => h) (Or.inl ⟨by rfl, ?_⟩) (by assumption) ?_
      rotate_left
      · intro w hSw; obtain ⟨⟨z0, z1, z2⟩, ⟨u0, u1, u2⟩⟩ := hSw; go_simp; with_reducible rfl
      try simp only [Act.put, List.getElem_toArray, List.getElem_cons_succ, List.getElem_cons_zero, List.setIfInBounds_toArray, List.set_cons_zero, List.set_cons_succ]
      refine wpAnyE.take (i := 3) (v := ?_) rfl (by kernel_rfl) (by kernel_rfl) (by kernel_rfl) (by kernel_rfl) (fun _ _ _ h => h) (Or.inl ⟨by rfl, ?_⟩) (by assumption) ?_
      rotate_left
      · intro w hSw; obtain ⟨⟨z0, z1, z2⟩, ⟨u0, u1, u2⟩⟩ := hSw; go_simp; with_reducible rfl
      try simp only [Act.put, List.getElem_toArray, List.getElem_cons_succ, List.getElem_cons_zero, List.setIfInBounds_toArray, List.set_cons_zero, List.set_cons_succ]
      refine wpAnyE.take (i := 4) (v := ?_) rfl (by kernel_rfl) (by kernel_rfl) (by kernel_rfl) (by kernel_rfl) (fun _ _ _ h => h) (Or.inl ⟨by rfl, ?_⟩) (by assumption) ?_
      rotate_left
      · intro w hSw; obtain ⟨⟨z0, z1, z2⟩, ⟨u0, u1, u2⟩⟩ := hSw; go_simp; with_reducible rfl
      try simp only [Act.put, List.getElem_toArray, List.getElem_cons_succ, List.getElem_cons_zero, List.setIfInBounds_toArray, List.set_cons_zero, List.set_cons_succ]
      refine wpAnyE.take (i := 5) (v := ?_) rfl (by kernel_rfl) (by kernel_rfl) (by kernel_rfl) (by kernel_rfl) (fun _ _ _ h => h) (Or.inl ⟨by rfl, ?_⟩) (by assumption) ?_
      rotate_left
      · intro w hSw; obtain ⟨⟨z0, z1, z2⟩, ⟨u0, u1, u2⟩⟩ := hSw; go_simp; with_reducible rfl
      try simp only [Act.put, List.getElem_toArray, List.getElem_cons_succ, List.getElem_cons_zero, List.setIfInBounds_toArray, List.set_cons_zero, List.set_cons_succ]
      refine wpAnyE.take (i := 6) (v := ?_) rfl (by kernel_rfl) (by kernel_rfl) (by kernel_rfl) (by kernel_rfl) (fun _ _ _ h => h) (Or.inl ⟨by rfl, ?_⟩) (by assumption) ?_
      rotate_left
      · intro w hSw; obtain ⟨⟨z0, z1, z2⟩, ⟨u0, u1, u2⟩⟩ := hSw; go_simp; with_reducible rfl
      try simp only [Act.put, List.getElem_toArray, List.getElem_cons_succ, List.getElem_cons_zero, List.setIfInBounds_toArray, List.set_cons_zero, List.set_cons_succ]
      refine wpAnyE.take (i := 7) (v := ?_) rfl (by kernel_rfl) (by kernel_rfl) (by kernel_rfl) (by kernel_rfl) (fun _ _ _ h => h) (Or.inl ⟨by rfl, ?_⟩) (by assumption) ?_
      rotate_left
      · intro w hSw; obtain ⟨⟨z0, z1, z2⟩, ⟨u0, u1, u2⟩⟩ := hSw; go_simp; with_reducible rfl
      try simp only [Act.put, List.getElem_toArray, List.getElem_cons_succ, List.getElem_cons_zero, List.setIfInBounds_toArray, List.set_cons_zero, List.set_cons_succ]
      refine wpAnyE.take (i := 8) (v := ?_) rfl (by kernel_rfl) (by kernel_rfl) (by kernel_rfl) (by kernel_rfl) (fun _ _ _ h => h) (Or.inl ⟨by rfl, ?_⟩) (by assumption) ?_
      rotate_left
      · intro w hSw; obtain ⟨⟨z0, z1, z2⟩, ⟨u0, u1, u2⟩⟩ := hSw; go_simp; with_reducible rfl
      try simp only [Act.put, List.getElem_toArray, List.getElem_cons_succ, List.getElem_cons_zero, List.setIfInBounds_toArray, List.set_cons_zero, List.set_cons_succ]
      refine wpAnyE.done (by kernel_rfl) ?_
      clear hS
      rcases HI.out with he | he
      · have hs := HS.out he
        rw [hs]
        have HX : Hid (∀ j (h1 : j < l.length) (h2 : j < l2.length), j < k + 1 → l[j] = l2[j]) := HNX.out he
        clear HE HNX HNO HS HT HI he hs
        go_wp2
        go_roundw
        case rel => exact ⟨k + 1, by go_num, by omega, hBD, HX⟩
        case measure => simp [intOf]; omega
      · have hs := HT.out he
        rw [hs]
        have HX : Hid (¬ l = l2) := HNO.out he
        clear HE HNX HNO HS HT HI he hs
        go_wp2
        go_ret
        exact ⟨false, rfl, ⟨fun e => (by cases e), fun e => absurd e HX.out⟩, hBD⟩
    · have hkl : k = l.length := by omega
      have HX : Hid (l = l2) := List.ext_getElem HN.out (fun j h1 h2 => HE.out j h1 h2 (by omega))
      clear HE
      subst hkl
      go_wp2
      go_ret
      exact ⟨true, rfl, ⟨fun _ => HX.out, fun _ => rfl⟩, hB⟩
end

section
open Go.RowKit
set_option maxRecDepth 100000

theorem sameO_iff {x y : Ob} : sameO x.id x.kind x.links x.text y.id y.kind y.links y.text = true ↔ x = y := by
  unfold sameO sameB
  constructor
  · intro h
    simp only [Bool.and_eq_true, decide_eq_true_eq] at h
    obtain ⟨⟨⟨h1, h2⟩, h3⟩, h4⟩ := h
    cases x; cases y
    simp only [Ob.mk.injEq]
    exact ⟨h1, h2, h4, ByteArray.ext (Array.toList_inj.1 (by simpa [ByteArray.toList_eq] using h3))⟩
  · rintro rfl; simp

set_option maxHeartbeats 2000000 in
theorem sameStore_any (a : Option Addr) (c : Nat) (l : List Ob) (a2 : Option Addr) (c2 : Nat) (l2 : List Ob) (w : World) (h : HoldsS w a l) (h2 : HoldsS w a2 l2) (hl : l.length ≤ 9223372036854775807) :
    Calls Tryd.prog 8 #[.slice a l.length c, .slice a2 l2.length c2] w fun e w' => ∃ r, e = .returned (.bool r) ∧ (r = true ↔ l = l2) ∧ Below w.heap.size w w' := by
  by_cases hn : l.length = l2.length
  case neg =>
    have zn : ((l.length : Int) != (l2.length : Int)) = true := by simpa using (by omega : ¬ ((l.length : Int) = (l2.length : Int)))
    have HN : Hid (¬ l = l2) := fun e => hn (by rw [e])
    clear hn
    go_enter Tryd.func8, Tryd.ntmps8
    go_wp2
    go_ret
    exact ⟨false, rfl, ⟨fun e => (by cases e), fun e => absurd e HN.out⟩, Below.refl _ _⟩
  rw [← hn]
  have HN : Hid (l.length = l2.length) := hn
  clear hn
  go_enter Tryd.func8, Tryd.ntmps8
  go_wp2
  go_loopw [5] (fun i wr => ∃ k : Nat, i = .int .i64 k ∧ k ≤ l.length ∧ Below w.heap.size w wr ∧ Hid (∀ j (h1 : j < l.length) (h2 : j < l2.length), j < k → l[j] = l2[j])) (fun i _ => l.length - (intOf i).toNat)
  case atStart => exact ⟨0, rfl, Nat.zero_le _, Below.refl _ _, fun j _ _ h => by omega⟩
  case round =>
    obtain ⟨k, rfl, hk, hB, HE⟩ := hrel
    by_cases hlt : k < l.length
    · have hlt' : (k : Int) < (l.length : Int) := by omega
      have hk2 : k < l2.length := by have := HN.out; omega
      obtain ⟨b, off, rfl, hb, hc⟩ := (h.below hB) k hlt
      obtain ⟨b2, off2, rfl, hb2, hc2⟩ := (h2.below hB) k hk2
      obtain ⟨sa, sc, x0, x1, x2, x3, x4, x5⟩ := hc k hlt
      obtain ⟨ta, tc, y0, y1, y2, y3, y4, y5⟩ := hc2 k hk2
      have HI : Hid (l[k] = l2[k] ∨ ¬ l[k] = l2[k]) := Classical.em _
      have HNX : Hid (l[k] = l2[k] → ∀ j (h1 : j < l.length) (h2 : j < l2.length), j < k + 1 → l[j] = l2[j]) := fun e j h1 h2 hj => by
        rcases Nat.lt_or_ge j k with q | q
        · exact HE.out j h1 h2 q
        · have : j = k := by omega
          subst this; exact e
      have HNO : Hid (¬ l[k] = l2[k] → ¬ l = l2) := fun e q => e (by subst q; rfl)
      have HS : Hid (∀ (_ : l[k] = l2[k]), sameO l[k].id l[k].kind l[k].links l[k].text l2[k].id l2[k].kind l2[k].links l2[k].text = true) := fun e => sameO_iff.2 e
      have HT : Hid (∀ (_ : ¬ l[k] = l2[k]), sameO l[k].id l[k].kind l[k].links l[k].text l2[k].id l2[k].kind l2[k].links l2[k].text = false) := fun e => bool_no sameO_iff e
      clear hc hc2 h h2
      go_wp2_with fail
      have hdr := (Below.refl wr.heap.size wr).drew
      have hBD := hB.trans (hdr.mono hB.size)
      have hb' : b < wr.drew.heap.size := hb
      have hb2' : b2 < wr.drew.heap.size := hb2
      have hS0 : (wr.drew.cell? ⟨b, off + k * 4, none⟩ = some (.int .i64 l[k].id) ∧ wr.drew.cell? ⟨b, off + k * 4 + 1, none⟩ = some (.int .i64 l[k].kind) ∧ wr.drew.cell? ⟨b, off + k * 4 + 2, none⟩ = some (.slice sa l[k].links.length sc) ∧ wr.drew.cell? ⟨b, off + k * 4 + 3, none⟩ = some (.string l[k].text)) ∧ (wr.drew.cell? ⟨b2, off2 + k * 4, none⟩ = some (.int .i64 l2[k].id) ∧ wr.drew.cell? ⟨b2, off2 + k * 4 + 1, none⟩ = some (.int .i64 l2[k].kind) ∧ wr.drew.cell? ⟨b2, off2 + k * 4 + 2, none⟩ = some (.slice ta l2[k].links.length tc) ∧ wr.drew.cell? ⟨b2, off2 + k * 4 + 3, none⟩ = some (.string l2[k].text)) := ⟨⟨x0, x1, x2, x3⟩, ⟨y0, y1, y2, y3⟩⟩
      have hso := sameObject_any l[k].id l[k].kind sa sc l[k].links l[k].text l2[k].id l2[k].kind ta tc l2[k].links l2[k].text _ (x4.below hdr) (y4.below hdr) x5
      refine wp_region_E (fun W => (W.cell? ⟨b, off + k * 4, none⟩ = some (.int .i64 l[k].id) ∧ W.cell? ⟨b, off + k * 4 + 1, none⟩ = some (.int .i64 l[k].kind) ∧ W.cell? ⟨b, off + k * 4 + 2, none⟩ = some (.slice sa l[k].links.length sc) ∧ W.cell? ⟨b, off + k * 4 + 3, none⟩ = some (.string l[k].text)) ∧ (W.cell? ⟨b2, off2 + k * 4, none⟩ = some (.int .i64 l2[k].id) ∧ W.cell? ⟨b2, off2 + k * 4 + 1, none⟩ = some (.int .i64 l2[k].kind) ∧ W.cell? ⟨b2, off2 + k * 4 + 2, none⟩ = some (.slice ta l2[k].links.length tc) ∧ W.cell? ⟨b2, off2 + k * 4 + 3, none⟩ = some (.string l2[k].text))) (fun _ => false) (by kernel_rfl) hS0 (fun hS => ?_)
      generalize wr.drew = W0 at *
      clear hS0 hdr hB x0 x1 x2 x3 x4 y0 y1 y2 y3 y4
      refine wpAnyE.take (i := 0) (v := ?_) rfl (by kernel_rfl) (by kernel_rfl) (by kernel_rfl) (by kernel_rfl) (fun _ _ _ h => h) (Or.inl ⟨by rfl, ?_⟩) (by assumption) ?_
      rotate_left
      · intro w hSw; obtain ⟨⟨z0, z1, z2, z3⟩, ⟨u0, u1, u2, u3⟩⟩ := hSw; go_simp; with_reducible rfl
      try simp only [Act.put, List.getElem_toArray, List.getElem_cons_zero, List.setIfInBounds_toArray, List.set_cons_zero, List.set_cons_succ]
      refine wpAnyE.take (i := 1) (v := ?_) rfl (by kernel_rfl) (by kernel_rfl) (by kernel_rfl) (by kernel_rfl) (fun _ _ _ h => h) (Or.inl ⟨by rfl, ?_⟩) (by assumption) ?_
      rotate_left
      · intro w hSw; obtain ⟨⟨z0, z1, z2, z3⟩, ⟨u0, u1, u2, u3⟩⟩ := hSw; go_simp; with_reducible rfl
      try simp only [Act.put, List.getElem_toArray, List.getElem_cons_succ, List.getElem_cons_zero, List.setIfInBounds_toArray, List.set_cons_zero, List.set_cons_succ]
      refine wpAnyE.take (i := 2) (v := ?_) rfl (by kernel_rfl) (by kernel_rfl) (by kernel_rfl) (by kernel_rfl) (fun _ _ _ h => h) (Or.inl ⟨by rfl, ?_⟩) (by assumption) ?_
      rotate_left
      · intro w hSw; obtain ⟨⟨z0, z1, z2, z3⟩, ⟨u0, u1, u2, u3⟩⟩ := hSw; go_simp; with_reducible rfl
      try simp only [Act.put, List.getElem_toArray, List.getElem_cons_succ, List.getElem_cons_zero, List.setIfInBounds_toArray, List.set_cons_zero, List.set_cons_succ]
      refine wpAnyE.take (i := 3) (v := ?_) rfl (by kernel_rfl) (by kernel_rfl) (by kernel_rfl) (by kernel_rfl) (fun _ _ _ h => h) (Or.inl ⟨by rfl, ?_⟩) (by assumption) ?_
      rotate_left
      · intro w hSw; obtain ⟨⟨z0, z1, z2, z3⟩, ⟨u0, u1, u2, u3⟩⟩ := hSw; go_simp; with_reducible rfl
      try simp only [Act.put, List.getElem_toArray, List.getElem_cons_succ, List.getElem_cons_zero, List.setIfInBounds_toArray, List.set_cons_zero, List.set_cons_succ]
      refine wpAnyE.take (i := 4) (v := ?_) rfl (by kernel_rfl) (by kernel_rfl) (by kernel_rfl) (by kernel_rfl) (fun _ _ _ h => h) (Or.inl ⟨by rfl, ?_⟩) (by assumption) ?_
      rotate_left
      · intro w hSw; obtain ⟨⟨z0, z1, z2, z3⟩, ⟨u0, u1, u2, u3⟩⟩ := hSw; go_simp; with_reducible rfl
      try simp only [Act.put, List.getElem_toArray, List.getElem_cons_succ, List.getElem_cons_zero, List.setIfInBounds_toArray, List.set_cons_zero, List.set_cons_succ]
      refine wpAnyE.take (i := 5) (v := ?_) rfl (by kernel_rfl) (by kernel_rfl) (by kernel_rfl) (by kernel_rfl) (fun _ _ _ h => h) (Or.inl ⟨by rfl, ?_⟩) (by assumption) ?_
      rotate_left
      · intro w hSw; obtain ⟨⟨z0, z1, z2, z3⟩, ⟨u0, u1, u2, u3⟩⟩ := hSw; go_simp; with_reducible rfl
      try simp only [Act.put, List.getElem_toArray, List.getElem_cons_succ, List.getElem_cons_zero, List.setIfInBounds_toArray, List.set_cons_zero, List.set_cons_succ]
      refine wpAnyE.take (i := 6) (v := ?_) rfl (by kernel_rfl) (by kernel_rfl) (by kernel_rfl) (by kernel_rfl) (fun _ _ _ h => h) (Or.inl ⟨by rfl, ?_⟩) (by assumption) ?_
      rotate_left
      · intro w hSw; obtain ⟨⟨z0, z1, z2, z3⟩, ⟨u0, u1, u2, u3⟩⟩ := hSw; go_simp; with_reducible rfl
      try simp only [Act.put, List.getElem_toArray, List.getElem_cons_succ, List.getElem_cons_zero, List.setIfInBounds_toArray, List.set_cons_zero, List.set_cons_succ]
      refine wpAnyE.take (i := 7) (v := ?_) rfl (by kernel_rfl) (by kernel_rfl) (by kernel_rfl) (by kernel_rfl) (fun _ _ _ h => h) (Or.inl ⟨by rfl, ?_⟩) (by assumption) ?_
      rotate_left
      · intro w hSw; obtain ⟨⟨z0, z1, z2, z3⟩, ⟨u0, u1, u2, u3⟩⟩ := hSw; go_simp; with_reducible rfl
      try simp only [Act.put, List.getElem_toArray, List.getElem_cons_succ, List.getElem_cons_zero, List.setIfInBounds_toArray, List.set_cons_zero, List.set_cons_succ]
      refine wpAnyE.one (i := 8) (by kernel_rfl) rfl (fun K hK => ?_)
      go_simp
      refine hso.mono ?_
      clear hso
      rintro e W1 ⟨rfl, hb1⟩
      have hB1 := hBD.trans (hb1.mono hBD.size)
      have hS1 : (W1.cell? ⟨b, off + k * 4, none⟩ = some (.int .i64 l[k].id) ∧ W1.cell? ⟨b, off + k * 4 + 1, none⟩ = some (.int .i64 l[k].kind) ∧ W1.cell? ⟨b, off + k * 4 + 2, none⟩ = some (.slice sa l[k].links.length sc) ∧ W1.cell? ⟨b, off + k * 4 + 3, none⟩ = some (.string l[k].text)) ∧ (W1.cell? ⟨b2, off2 + k * 4, none⟩ = some (.int .i64 l2[k].id) ∧ W1.cell? ⟨b2, off2 + k * 4 + 1, none⟩ = some (.int .i64 l2[k].kind) ∧ W1.cell? ⟨b2, off2 + k * 4 + 2, none⟩ = some (.slice ta l2[k].links.length tc) ∧ W1.cell? ⟨b2, off2 + k * 4 + 3, none⟩ = some (.string l2[k].text)) := by
        obtain ⟨⟨z0, z1, z2, z3⟩, ⟨u0, u1, u2, u3⟩⟩ := hS
        exact ⟨⟨(hb1.cell (p := ⟨b, off + k * 4, none⟩) hb').trans z0, (hb1.cell (p := ⟨b, off + k * 4 + 1, none⟩) hb').trans z1, (hb1.cell (p := ⟨b, off + k * 4 + 2, none⟩) hb').trans z2, (hb1.cell (p := ⟨b, off + k * 4 + 3, none⟩) hb').trans z3⟩, ⟨(hb1.cell (p := ⟨b2, off2 + k * 4, none⟩) hb2').trans u0, (hb1.cell (p := ⟨b2, off2 + k * 4 + 1, none⟩) hb2').trans u1, (hb1.cell (p := ⟨b2, off2 + k * 4 + 2, none⟩) hb2').trans u2, (hb1.cell (p := ⟨b2, off2 + k * 4 + 3, none⟩) hb2').trans u3⟩⟩
      go_simp
      refine hK _ _ (fun _ => hS1) ?_
      clear hK K hBD hb1
      try simp only [Act.put, List.getElem_toArray, List.getElem_cons_succ, List.getElem_cons_zero, List.setIfInBounds_toArray, List.set_cons_zero, List.set_cons_succ]
      refine wpAnyE.one (i := 9) (by kernel_rfl) rfl (fun K hK => ?_)
      go_simp
      refine hK _ _ (fun _ => hS1) ?_
      clear hK K
      try simp only [Act.put, List.getElem_toArray, List.getElem_cons_succ, List.getElem_cons_zero, List.setIfInBounds_toArray, List.set_cons_zero, List.set_cons_succ]
      refine wpAnyE.done (by kernel_rfl) ?_
      clear hS hS1
      rcases HI.out with he | he
      · have hs := HS.out he
        rw [hs]
        have HX : Hid (∀ j (h1 : j < l.length) (h2 : j < l2.length), j < k + 1 → l[j] = l2[j]) := HNX.out he
        clear HE HNX HNO HS HT HI he hs
        go_wp2
        go_roundw
        case rel => exact ⟨k + 1, by go_num, by omega, hB1, HX⟩
        case measure => simp [intOf]; omega
      · have hs := HT.out he
        rw [hs]
        have HX : Hid (¬ l = l2) := HNO.out he
        clear HE HNX HNO HS HT HI he hs
        go_wp2
        go_ret
        exact ⟨false, rfl, ⟨fun e => (by cases e), fun e => absurd e HX.out⟩, hB1⟩
    · have hkl : k = l.length := by omega
      have HX : Hid (l = l2) := List.ext_getElem HN.out (fun j h1 h2 => HE.out j h1 h2 (by omega))
      clear HE
      subst hkl
      go_wp2
      go_ret
      exact ⟨true, rfl, ⟨fun _ => HX.out, fun _ => rfl⟩, hB⟩
end

section
open Go.RowKit Go.Shelf
set_option maxRecDepth 100000

theorem HoldsS.part {w : World} {b off : Nat} {l : List Ob} (h : HoldsS w (some ⟨b, off, none⟩) l) (k n : Nat) : HoldsS w (some ⟨b, off + k * 4, none⟩) ((l.drop k).take n) := by
  intro i hi
  have hi' : k + i < l.length := by rw [List.length_take, List.length_drop] at hi; omega
  obtain ⟨b', off', e, hb, hc⟩ := h (k + i) hi'
  cases e
  refine ⟨b, off + k * 4, rfl, hb, fun j hj => ?_⟩
  have hj' : k + j < l.length := by rw [List.length_take, List.length_drop] at hj; omega
  rw [List.getElem_take, List.getElem_drop]
  have := hc (k + j) hj'
  rwa [show off + (k + j) * 4 = off + k * 4 + j * 4 by omega] at this
end

section
open Go.RowKit
set_option maxRecDepth 100000

abbrev nA : ByteArray := { data := #[97] }
def lstR : List Rf := [⟨nA, 9⟩, ⟨nMain, 5⟩]
def nsC : List ByteArray := [nA, nMain, nXY]
def leadC : List Up := [⟨nA, 9, 0⟩, ⟨nMain, 5, 3⟩, ⟨nXY, 0, 5⟩]
theorem names_one {l m : List Rf} {a b : List ByteArray} (h1 : NamesOf l m a) (h2 : NamesOf l m b) : a = b := by
  have nd : ∀ {x : List ByteArray}, x.Pairwise ltN → x.Nodup := fun h => List.Pairwise.imp (fun {a b} q e => by rw [e] at q; exact ltN.irrefl _ q) h
  have hp : a.Perm b := (List.perm_ext_iff_of_nodup (nd h1.1) (nd h2.1)).2 fun n => (h1.2 n).trans (h2.2 n).symm
  exact hp.eq_of_pairwise (fun a b _ _ q1 q2 => absurd q2 q1.asymm) h1.1 h2.1
theorem nsC_of : NamesOf namesL lstR nsC := by
  constructor
  · unfold nsC ltN
    decide +kernel
  · intro n
    simp only [nsC, namesL, lstR, List.mem_cons, List.not_mem_nil, or_false, List.cons_append, List.nil_append]
    constructor
    · rintro (rfl | rfl | rfl)
      · exact ⟨_, .inr (.inr (.inl rfl)), rfl⟩
      · exact ⟨_, .inl rfl, rfl⟩
      · exact ⟨_, .inr (.inl rfl), rfl⟩
    · rintro ⟨r, (rfl | rfl | rfl | rfl), rfl⟩
      · exact .inr (.inl rfl)
      · exact .inr (.inr rfl)
      · exact .inl rfl
      · exact .inr (.inl rfl)
theorem beg_lists : checkL namesL lstR = 0 := by decide +kernel
theorem beg_lead : leadL namesL lstR nsC = leadC := by kernel_rfl
theorem beg_diff : diffE shelfL (shelfL.take 3) = 0 := by decide +kernel
theorem beg_miss : missL shelfL (shelfL.take 3) = shelfL.drop 3 := by kernel_rfl
theorem HoldsS.take {w : World} {a : Option Addr} {l : List Ob} (h : HoldsS w a l) (n : Nat) : HoldsS w a (l.take n) := by
  intro i hi
  rw [List.length_take] at hi
  obtain ⟨b, off, e, hb, hc⟩ := h i (by omega)
  refine ⟨b, off, e, hb, fun j hj => ?_⟩
  rw [List.length_take] at hj
  rw [List.getElem_take]
  exact hc j (by omega)

set_option maxHeartbeats 4000000 in
theorem diffBegun_any (w : World) (hg : Glob w) : Calls Tryd.prog 5 #[] w fun e w' => e = .returned (.bool true) ∧ Below w.heap.size w w' := by
  go_enter Tryd.func5, Tryd.ntmps5
  go_wp2_with fail
  refine (shelf_holds w).mono ?_
  rintro e w1 ⟨g1, rfl, hb1, S1⟩
  go_wp2_with fail
  refine (shelf_holds w1).mono ?_
  rintro e w2 ⟨g2, rfl, hb2, S2⟩
  have hB2 := hb1.trans (hb2.mono hb1.size)
  have S1' := S1.below hb2
  have hc : Calls Tryd.prog 4 #[.slice (some ⟨g1, 0, none⟩) 5 5, .slice (some ⟨g2, 0, none⟩) 3 5] w2 (DiffPost shelfL (shelfL.take 3) w2) := diffObjects_any (some ⟨g1, 0, none⟩) 5 shelfL (some ⟨g2, 0, none⟩) 5 (shelfL.take 3) w2 S1' (by decide) (S2.take 3) (by decide)
  clear hb1 hb2 S1 S1' S2
  go_wp2_with fail
  refine hc.mono ?_
  clear hc
  rintro e w3 ⟨hb3, ⟨hne, -⟩ | ⟨-, v, rs, rfl, hrs, O3⟩⟩
  · exact absurd beg_diff hne
  rw [beg_miss] at hrs
  obtain ⟨b0, d0, rfl⟩ := objs_slice hrs O3
  have D3 : HoldsS w3 b0 (shelfL.drop 3) := Objs.list hrs O3
  have hB3 := hB2.trans (hb3.mono hB2.size)
  clear hb3 O3 hrs hB2
  go_wp2_with fail
  refine (names_any w3).mono ?_
  rintro e w4 ⟨g3, rfl, R3, hb4⟩
  have D4 := D3.below hb4
  have hB4 := hB3.trans (hb4.mono hB3.size)
  have hA := below_alloc w4 (.cells #[.string nA, .int .i64 9, .string nMain, .int .i64 5] 43)
  have kA := heap_alloc_new w4 (.cells #[.string nA, .int .i64 9, .string nMain, .int .i64 5] 43)
  have cA : ∀ i v, (#[.string nA, .int .i64 9, .string nMain, .int .i64 5] : Array Value)[i]? = some v → (w4.alloc (.cells #[.string nA, .int .i64 9, .string nMain, .int .i64 5] 43)).cell? ⟨w4.heap.size, i, none⟩ = some v := fun i v h => by rw [cell_of_row _ _ _ _ _ _ kA]; exact h
  have RA : HoldsR (w4.alloc (.cells #[.string nA, .int .i64 9, .string nMain, .int .i64 5] 43)) (some ⟨w4.heap.size, 0, none⟩) lstR := by
    intro i hi
    refine ⟨w4.heap.size, 0, rfl, heap_lt kA, fun j hj => ?_⟩
    have hj' : j = 0 ∨ j = 1 := by simp [lstR] at hj; omega
    rcases hj' with rfl | rfl
    · exact ⟨cA 0 _ rfl, cA 1 _ rfl⟩
    · exact ⟨cA 2 _ rfl, cA 3 _ rfl⟩
  have D5 := D4.below hA
  have hB5 := hB4.trans (hA.mono hB4.size)
  have hc : Calls Tryd.prog 14 #[.slice (some ⟨g3, 0, none⟩) 2 2, .slice (some ⟨w4.heap.size, 0, none⟩) 2 2] _ (RfPost namesL lstR _) := drefs_any (some ⟨g3, 0, none⟩) 2 namesL (some ⟨w4.heap.size, 0, none⟩) 2 lstR _ (hg.below hB5) (R3.below hA) RA
  clear hb4 hA kA cA RA R3 D3 D4 hB3 hB4
  go_wp2_with fail
  refine hc.mono ?_
  clear hc
  rintro e w5 ⟨hb5, ⟨hne, -⟩ | ⟨-, ns, a5, c5, rfl, hN, hU, -, -⟩⟩
  · exact absurd beg_lists hne
  obtain rfl := names_one hN nsC_of
  rw [beg_lead] at hU ⊢
  have D6 := D5.below hb5
  have hB6 := hB5.trans (hb5.mono hB5.size)
  clear hN hb5 hB5 D5
  generalize w4.alloc (.cells #[.string nA, .int .i64 9, .string nMain, .int .i64 5] 43) = wq at *
  go_wp2_with fail
  refine (shelf_holds w5).mono ?_
  rintro e w6 ⟨g4, rfl, hb6, S6⟩
  have D7 := D6.below hb6
  have U7 := hU.below hb6
  have hB7 := hB6.trans (hb6.mono hB6.size)
  have hc : Calls Tryd.prog 8 #[.slice b0 2 d0, .slice (some ⟨g4, 12, none⟩) 2 2] w6 _ := sameStore_any b0 d0 (shelfL.drop 3) (some ⟨g4, 12, none⟩) 2 (shelfL.drop 3) w6 D7 (S6.part 3 2) (by decide)
  clear hb6 hB6 D6 hU D7 S6
  go_wp2_with fail
  refine hc.mono ?_
  clear hc
  rintro e w7 ⟨r, rfl, hr, hb7⟩
  obtain rfl : r = true := hr.2 (by first | trivial | rfl)
  have U8 := U7.below hb7
  have hB8 := hB7.trans (hb7.mono hB7.size)
  have hA := below_alloc w7 (.cells #[.string nA, .int .i64 9, .int .i64 0, .string nMain, .int .i64 5, .int .i64 3, .string nXY, .int .i64 0, .int .i64 5] 46)
  have kA := heap_alloc_new w7 (.cells #[.string nA, .int .i64 9, .int .i64 0, .string nMain, .int .i64 5, .int .i64 3, .string nXY, .int .i64 0, .int .i64 5] 46)
  have cA : ∀ i v, (#[.string nA, .int .i64 9, .int .i64 0, .string nMain, .int .i64 5, .int .i64 3, .string nXY, .int .i64 0, .int .i64 5] : Array Value)[i]? = some v → (w7.alloc (.cells #[.string nA, .int .i64 9, .int .i64 0, .string nMain, .int .i64 5, .int .i64 3, .string nXY, .int .i64 0, .int .i64 5] 46)).cell? ⟨w7.heap.size, i, none⟩ = some v := fun i v h => by rw [cell_of_row _ _ _ _ _ _ kA]; exact h
  have UA : HoldsU (w7.alloc (.cells #[.string nA, .int .i64 9, .int .i64 0, .string nMain, .int .i64 5, .int .i64 3, .string nXY, .int .i64 0, .int .i64 5] 46)) (some ⟨w7.heap.size, 0, none⟩) leadC := by
    intro i hi
    refine ⟨w7.heap.size, 0, rfl, heap_lt kA, fun j hj => ?_⟩
    have hj' : j = 0 ∨ j = 1 ∨ j = 2 := by simp [leadC] at hj; omega
    rcases hj' with rfl | rfl | rfl
    · exact ⟨cA 0 _ rfl, cA 1 _ rfl, cA 2 _ rfl⟩
    · exact ⟨cA 3 _ rfl, cA 4 _ rfl, cA 5 _ rfl⟩
    · exact ⟨cA 6 _ rfl, cA 7 _ rfl, cA 8 _ rfl⟩
  have hB9 := hB8.trans (hA.mono hB8.size)
  have hc : Calls Tryd.prog 16 #[.slice a5 3 c5, .slice (some ⟨w7.heap.size, 0, none⟩) 3 3] _ _ := sameUps_any a5 c5 leadC (some ⟨w7.heap.size, 0, none⟩) 3 leadC _ (U8.below hA) UA (by decide)
  clear hb7 hB7 hB8 U7 U8 hr hA kA cA UA
  go_wp2_with fail
  refine hc.mono ?_
  clear hc
  rintro e w8 ⟨r, rfl, hr, hb8⟩
  obtain rfl : r = true := hr.2 (by first | trivial | rfl)
  have hB10 := hB9.trans (hb8.mono hB9.size)
  clear hb8 hB9 hr
  go_wp2
  go_ret
  exact ⟨rfl, hB10⟩
end
end Go.Proofs.YtehmlpkapjdhkaaDoor
