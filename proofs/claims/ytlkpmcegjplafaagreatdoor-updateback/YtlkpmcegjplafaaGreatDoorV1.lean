import Derived.Test.YtlkpmcegjplafaaGreatDoorMU
namespace Go.Proofs.YtlkpmcegjplafaaGreatDoor
open Go.RowKit
set_option maxRecDepth 100000

/-- append of one update onto a row of one's own, of whatever length. -/
theorem app_upbig (w : World) (base : Nat) (ty : TypeId) (v : Value) (n : Nat) (xs : List Value) (hown : w.ownsRow base 27 3 v n xs) (vb : Nat) (ys : Array Value) (hv : w.heap[vb]? = some (.cells ys 27)) (hys : ys.size = 3)
    (h2 : ∀ v ∈ ys.toList, v.oneCell' = true) (hn : (n + 1) * 32 ≤ 140737488355328) (hbase : base ≤ w.heap.size) :
    ∃ v' w', (Builtin.append_ #[24, 24] ty #[v, .slice (some ⟨vb, 0, none⟩) 1 1]).run Tryz.prog w = .ok v' w' ∧ w'.ownsRow base 27 3 v' (n + 1) (xs ++ ys.toList) ∧ w.grownBy w' v.ownBlock := by
  obtain ⟨i0, hi0, hz0, hzs, hzb⟩ := info_parts Tryz.info27
  have hl : ys.toList.length = 1 * 3 := by rw [Array.length_toList, hys]
  have hnews := World.news_of_block hv
  obtain ⟨v', w', hr, q1, q2, _⟩ := run_append_own (P := Tryz.prog) w base 24 ty 27 i0 _ 3 32 Tryz.underlying24 hi0 hz0 hzs hzb rfl (by omega) v n xs hown ⟨vb, 0, none⟩ 1 1 ys.toList hl hnews h2 (by unfold maxLen; omega) (by omega) hbase
  exact ⟨v', w', hr, q1, q2⟩

/-- what has been turned so far. -/
def TurnedU (w0 : World) (m : List Up) (k : Nat) (v : Value) (wr : World) : Prop :=
  wr.ownsRow w0.heap.size 27 3 v k (rowU (m.reverse.take k)) ∧ Below w0.heap.size w0 wr
theorem TurnedU.next {w0 : World} {m : List Up} {k j : Nat} {v : Value} {wr : World} (h : TurnedU w0 m k v wr) (hj : j + 1 + k = m.length) (hm : m.length * 32 ≤ 140737488355328) (ty : TypeId) :
    ∃ v' w', (Builtin.append_ #[24, 24] ty #[v, .slice (some ⟨wr.heap.size, 0, none⟩) 1 1]).run Tryz.prog (wr.alloc (.cells #[.string (m[j]'(by omega)).name, .int .i64 (m[j]'(by omega)).old, .int .i64 (m[j]'(by omega)).new] 27)) = .ok v' w' ∧ TurnedU w0 m (k + 1) v' w' := by
  have hjm : j < m.length := by omega
  obtain ⟨x, hx⟩ : ∃ x, x = m[j]'hjm := ⟨_, rfl⟩
  rw [← hx]
  obtain ⟨q3, q5⟩ := h
  have hb := below_alloc wr (.cells #[.string x.name, .int .i64 x.old, .int .i64 x.new] 27)
  have q3' := q3.alloc (.cells #[.string x.name, .int .i64 x.old, .int .i64 x.new] 27)
  obtain ⟨v', w', r1, r2, r3⟩ := app_upbig _ w0.heap.size ty v k _ q3' wr.heap.size _ (heap_alloc_new wr _) rfl (by intro u hu; simp only [List.mem_cons, List.not_mem_nil, or_false] at hu; rcases hu with rfl | rfl | rfl <;> rfl) (by omega) (Nat.le_trans q5.size hb.size)
  have B1 := q5.trans (hb.mono q5.size)
  have B2 : Below w0.heap.size (wr.alloc (.cells #[.string x.name, .int .i64 x.old, .int .i64 x.new] 27)) w' :=
    ⟨r3.os, r3.tape, r3.output, r3.size, fun b hb' => r3.block b (Nat.lt_of_lt_of_le hb' B1.size) (fun e => by have := (q3'.lt b e.symm).1; omega)⟩
  refine ⟨v', w', r1, ?_, B1.trans B2⟩
  have e : m.reverse.take (k + 1) = m.reverse.take k ++ [x] := by
    rw [List.take_succ_eq_append_getElem (by rw [List.length_reverse]; omega), List.getElem_reverse, hx]
    congr 3
    omega
  rw [e, rowU_append]
  exact r2

theorem TurnedU.reads {w0 : World} {m : List Up} {v : Value} {wr : World} (h : TurnedU w0 m m.length v wr) : ∃ a c, v = .slice a m.reverse.length c ∧ HoldsU wr a m.reverse := by
  have hT := h.1
  rw [List.take_of_length_le (by simp)] at hT
  have hT' : wr.ownsRow w0.heap.size 27 3 v m.reverse.length (rowU m.reverse) := by rw [List.length_reverse]; exact hT
  obtain ⟨a, c, e, hh, -⟩ := ownU_reads hT'
  exact ⟨a, c, e, hh⟩

theorem bool_same {x y : Int} (h : x = 0 ↔ y = 0) : ∃ b, (x == 0) = b ∧ (y == 0) = b := by
  by_cases c : x = 0
  · exact ⟨true, by simpa using c, by simpa using h.1 c⟩
  · exact ⟨false, by simpa using c, by simpa using fun q => c (h.2 q)⟩

set_option maxHeartbeats 4000000 in
theorem updateOrder_any (a : Option Addr) (c : Nat) (l : List Rf) (ao : Option Addr) (co : Nat) (o : List Ob) (au : Option Addr) (cu : Nat) (us : List Up) (force : Bool) (w : World) (hg : Glob w) (h : HoldsR w a l) (hl : l.length ≤ 9223372036854775807) (ho : HoldsS w ao o) (hroom : Room w ao o) (hol : o.length ≤ 9223372036854775807) (hu : HoldsU w au us) (hus : us.length * 32 ≤ 140737488355328) :
    Calls Tryz.prog 3 #[.slice a l.length c, .slice ao o.length co, .slice au us.length cu, .bool force] w fun e w' => e = .returned (.bool true) ∧ Below w.heap.size w w' := by
  have hu63 : (us.length : Int) ≤ 9223372036854775807 := by omega
  go_enter Tryz.func3, Tryz.ntmps3
  go_wp2_with fail
  refine (updateBegun_any w hg).mono ?_
  rintro e w0 ⟨rfl, hb0⟩
  go_wp2_with fail
  refine (refsBegun_any w0 (hg.below hb0)).mono ?_
  rintro e w1 ⟨rfl, hb1'⟩
  have hb1 := hb0.trans (hb1'.mono hb0.size)
  have hu1 := hu.below hb1
  clear hb0 hb1'
  go_wp2
  go_loopw [9, 10] (fun v i wr => ∃ j k : Nat, j + k = us.length ∧ i = .int .i64 ((j : Int) - 1) ∧ TurnedU w1 us k v wr) (fun _ i _ => (intOf i + 1).toNat)
  case atStart => exact ⟨us.length, 0, by omega, rfl, World.ownsRow_nil _ _ _ _, Below.refl _ _⟩
  case round =>
    obtain ⟨j, k, hjk, rfl, HT⟩ := hrel
    cases j with
    | zero =>
      obtain rfl : k = us.length := by omega
      obtain ⟨a3, c3, rfl, h3⟩ := HT.reads
      have hB := hb1.trans (HT.2.mono hb1.size)
      clear HT hu1 hb1 hjk
      rw [show (((0 : Nat) : Int) - 1) = -1 by rfl]
      have hrl : us.reverse.length ≤ 9223372036854775807 := by rw [List.length_reverse]; omega
      have hu64 : us.length ≤ 9223372036854775807 := by omega
      have HT2 : Hid (textS us.reverse = textS us) := textS_turned us
      obtain ⟨b2, hc1, hc2⟩ := bool_same (x := checkU us) (y := checkU us.reverse) checkU_reverse_iff.symm
      have HAI : Hid (applyE l o us.reverse force = 0 ↔ applyE l o us force = 0) := apply_turned_iff
      have HRL : Hid (applyE l o us force = 0 → runL l us.reverse = runL l us) := fun q => (apply_turned q).2
      obtain ⟨m, hm⟩ : ∃ m, m = us.reverse := ⟨_, rfl⟩
      rw [← hm] at h3 hrl HT2 hc2 HAI HRL
      rw [← hm]
      clear hm
      have hap := apply_any a c l ao co o au cu us force wr (hg.below hB) (h.below hB) hl (ho.below hB) (hroom.below hB) hol (hu.below hB) hu64
      go_wp2_with fail
      refine hap.mono ?_
      clear hap
      rintro e w2 ⟨hb2, hA2⟩
      have hB2 := hB.trans (hb2.mono hB.size)
      have h32 := h3.below hb2
      clear h3 hb2 hB
      have hap := apply_any a c l ao co o a3 c3 m force w2 (hg.below hB2) (h.below hB2) hl (ho.below hB2) (hroom.below hB2) hol h32 hrl
      rcases hA2 with ⟨hne, rfl⟩ | ⟨hz, a4, c4, rfl, hA4, -⟩
      · have hnr : applyE l o m force ≠ 0 := fun q => hne (HAI.out.1 q)
        go_wp2_with fail
        refine hap.mono ?_
        clear hap
        rintro e w3 ⟨hb3, ⟨-, rfl⟩ | ⟨hno, _⟩⟩
        case inr => exact absurd hno hnr
        have hB3 := hB2.trans (hb3.mono hB2.size)
        have h33 := h32.below hb3
        clear hb3 hB2 h32
        have hz1 : (applyE l o us force == 0) = false := by simpa using hne
        have hz2 : (applyE l o m force == 0) = false := by simpa using hnr
        have hz3 : (applyE l o us force != 0) = true := by simpa using hne
        clear hne hnr
        have htx := text_any au cu us w3 (hg.below hB3) (hu.below hB3) hu64
        go_wp2_with fail
        refine htx.mono ?_
        clear htx
        rintro e w4 ⟨rfl, hb4⟩
        have hB4 := hB3.trans (hb4.mono hB3.size)
        have h34 := h33.below hb4
        clear hb4 hB3 h33
        have htx := text_any a3 c3 m w4 (hg.below hB4) h34 hrl
        go_wp2_with fail
        refine htx.mono ?_
        clear htx
        rintro e w5 ⟨rfl, hb5⟩
        rw [HT2.out]
        have hB5 := hB4.trans (hb5.mono hB4.size)
        clear hb5 hB4 h34
        have hsr := sameRefs_eq none 0 none 0 [] w5 (fun i hi => by simp at hi) (fun i hi => by simp at hi) (by simp)
        go_wp2_with fail
        refine hsr.mono ?_
        clear hsr
        rintro e w6 ⟨rfl, hb6⟩
        have hB6 := hB5.trans (hb6.mono hB5.size)
        clear hb6 hB5
        cases b2 <;> (go_wp2; go_ret; exact ⟨rfl, hB6⟩)
      · have hzr : applyE l o m force = 0 := HAI.out.2 hz
        have HR2 : Hid (runL l m = runL l us) := HRL.out hz
        have HZ : Hid (refsE (runL l us) o = 0) := (applyE_iff.1 hz).2.2.2
        have HZR : Hid (applyE l o m force = 0) := hzr
        have hrA : (runL l us).length ≤ 9223372036854775807 := by have := (refsE_iff.1 HZ.out).2.1; omega
        clear hz hzr HAI HRL
        go_wp2_with fail
        refine hap.mono ?_
        clear hap
        rintro e w3 ⟨hb3, ⟨hno, -⟩ | ⟨-, a5, c5, rfl, hA5, -⟩⟩
        case inl => exact absurd HZR.out hno
        rw [HR2.out] at hA5
        rw [HR2.out]
        have hB3 := hB2.trans (hb3.mono hB2.size)
        have h33 := h32.below hb3
        have hA43 := hA4.below hb3
        clear hb3 hB2 h32 hA4
        obtain ⟨A, hAe⟩ : ∃ A, A = runL l us := ⟨_, rfl⟩
        rw [← hAe] at hA43 hA5 HZ hrA
        rw [← hAe]
        clear hAe HR2
        have htx := text_any au cu us w3 (hg.below hB3) (hu.below hB3) hu64
        go_wp2_with fail
        refine htx.mono ?_
        clear htx
        rintro e w4 ⟨rfl, hb4⟩
        have hB4 := hB3.trans (hb4.mono hB3.size)
        have h34 := h33.below hb4
        have hA44 := hA43.below hb4
        have hA54 := hA5.below hb4
        clear hb4 hB3 h33 hA43 hA5
        have htx := text_any a3 c3 m w4 (hg.below hB4) h34 hrl
        go_wp2_with fail
        refine htx.mono ?_
        clear htx
        rintro e w5 ⟨rfl, hb5⟩
        rw [HT2.out]
        have hB5 := hB4.trans (hb5.mono hB4.size)
        have hA45 := hA44.below hb5
        have hA55 := hA54.below hb5
        clear hb5 hB4 h34 hA44 hA54
        have hsr := sameRefs_eq a4 c4 a5 c5 A w5 hA45 hA55 hrA
        go_wp2_with fail
        refine hsr.mono ?_
        clear hsr
        rintro e w6 ⟨rfl, hb6⟩
        have hB6 := hB5.trans (hb6.mono hB5.size)
        have hA46 := hA45.below hb6
        clear hb6 hB5 hA45 hA55
        have hrc := refsCheck_any a4 c4 A ao co o w6 (hg.below hB6) hA46 hrA (ho.below hB6) hol
        rw [HZ.out] at hrc
        cases b2 with
        | true =>
          go_wp2_with fail
          refine hrc.mono ?_
          clear hrc
          rintro e w7 ⟨rfl, hb7⟩
          have hB7 := hB6.trans (hb7.mono hB6.size)
          clear hb7 hB6
          go_wp2
          go_ret
          exact ⟨rfl, hB7⟩
        | false =>
          go_wp2_with fail
          refine hrc.mono ?_
          clear hrc
          rintro e w7 ⟨rfl, hb7⟩
          have hB7 := hB6.trans (hb7.mono hB6.size)
          clear hb7 hB6
          go_wp2
          go_ret
          exact ⟨rfl, hB7⟩
    | succ j =>
      obtain ⟨b, off, rfl, hb, hcc⟩ := hu1 j (by omega)
      obtain ⟨x0, x1, x2⟩ := hcc j (by omega)
      have hBT : Below w1.heap.size w1 wr := HT.2
      have y0 := (hBT.cell (p := ⟨b, off + j * 3, none⟩) hb).trans x0
      have y1 := (hBT.cell (p := ⟨b, off + j * 3 + 1, none⟩) hb).trans x1
      have y2 := (hBT.cell (p := ⟨b, off + j * 3 + 2, none⟩) hb).trans x2
      obtain ⟨v', w', hr, HN⟩ := HT.next (j := j) (by omega) hus 24
      clear hcc x0 x1 x2 hBT HT hu1
      have hjm : (j : Int) < (us.length : Int) := by omega
      rw [show (((j + 1 : Nat) : Int) - 1) = j by omega]
      go_wp2_with (show wpList _ _ _ ({dst := some 38, op := _, type := _, pos := _, after := _, guard := _} :: _) _ _; refine id ?roundEnd)
      refine wpList_append_g rfl (.tmp 32) (.tmp 37) rfl _ _ (by rfl) (by rfl) hr ?go
      simp only [Act.put, List.setIfInBounds_toArray, List.set_cons_zero, List.set_cons_succ]
      clear hr y0 y1 y2
      go_wp2
      go_roundw
      case rel => exact ⟨j, k + 1, by omega, by go_num, HN⟩
      case measure => simp [intOf] <;> omega
end Go.Proofs.YtlkpmcegjplafaaGreatDoor
