import Derived.Test.YtehmlpkapjdhkaaGreatDoorMU
import Derived.Test.YtehmlpkapjdhkaaGreatDoorMK1
namespace Go.Proofs.YtehmlpkapjdhkaaGreatDoor
section
open Go.RowKit
set_option maxRecDepth 100000

theorem sameR_iff {x y : Rf} : sameR x y = true ↔ x = y := by
  unfold sameR
  constructor
  · intro h
    simp only [Bool.and_eq_true, beq_iff_eq] at h
    cases x; cases y
    simp only [Rf.mk.injEq]
    exact ⟨ByteArray.ext (Array.toList_inj.1 (by simpa [ByteArray.toList_eq] using h.1)), h.2⟩
  · rintro rfl; simp
theorem neqR2 (n1 n2 : ByteArray) (i1 i2 : Int) (w : World) : (binOp .neq 65 (.agg #[.string n1, .int .i64 i1]) (.agg #[.string n2, .int .i64 i2])).run Tryz.prog w = .ok (.bool (!sameR ⟨n1, i1⟩ ⟨n2, i2⟩)) w := neqR ⟨n1, i1⟩ ⟨n2, i2⟩ w
def sameU3 (x y : Up) : Bool := x.name.toList == y.name.toList && x.old == y.old && x.new == y.new
theorem neqU2 (n1 n2 : ByteArray) (i1 i2 j1 j2 : Int) (w : World) : (binOp .neq 40 (.agg #[.string n1, .int .i64 i1, .int .i64 j1]) (.agg #[.string n2, .int .i64 i2, .int .i64 j2])).run Tryz.prog w = .ok (.bool (!sameU3 ⟨n1, i1, j1⟩ ⟨n2, i2, j2⟩)) w := by
  have u3 := Tryz.underlying3
  have a3 := Tryz.isAgg3
  have z3 := Tryz.sizeOf3
  have u9 := Tryz.underlying9
  have a9 := Tryz.isAgg9
  have z9 := Tryz.sizeOf9
  have hS : Tryz.prog.underlying 40 = some (.struct (Tryz.prog.fieldsOf 40)) := by kernel_rfl
  have hp : Tryz.prog.stoodInHeld 40 = false := by kernel_rfl
  rw [run_neq_struct, show (10000 : Nat) = 9999 + 1 from rfl, run_equalIn_agg w 9999 40 _ _ hS hp]
  simp only [Program.fieldsOf, Tryz.underlying40]
  go_simp
  unfold sameU3
  by_cases h1 : n1.toList = n2.toList <;> by_cases h2 : i1 = i2 <;> by_cases h3 : j1 = j2 <;> simp [h1, h2, h3]
theorem sameU3_iff {x y : Up} : sameU3 x y = true ↔ x = y := by
  unfold sameU3
  constructor
  · intro h
    simp only [Bool.and_eq_true, beq_iff_eq] at h
    cases x; cases y
    simp only [Up.mk.injEq]
    exact ⟨ByteArray.ext (Array.toList_inj.1 (by simpa [ByteArray.toList_eq] using h.1.1)), h.1.2, h.2⟩
  · rintro rfl; simp
theorem bool_no {b : Bool} {P : Prop} (h : b = true ↔ P) (hP : ¬ P) : b = false := by
  cases b
  · rfl
  · exact absurd (h.1 rfl) hP

set_option maxHeartbeats 2000000 in
theorem sameRefs_any (a : Option Addr) (c : Nat) (l : List Rf) (a2 : Option Addr) (c2 : Nat) (l2 : List Rf) (w : World) (h : HoldsR w a l) (h2 : HoldsR w a2 l2) (hl : l.length ≤ 9223372036854775807) :
    Calls Tryz.prog 22 #[.slice a l.length c, .slice a2 l2.length c2] w fun e w' => ∃ r, e = .returned (.bool r) ∧ (r = true ↔ l = l2) ∧ Below w.heap.size w w' := by
  by_cases hn : l.length = l2.length
  case neg =>
    have zn : ((l.length : Int) != (l2.length : Int)) = true := by simpa using (by omega : ¬ ((l.length : Int) = (l2.length : Int)))
    have HN : Hid (¬ l = l2) := fun e => hn (by rw [e])
    clear hn
    go_enter Tryz.func22, Tryz.ntmps22
    go_wp2
    go_ret
    exact ⟨false, rfl, ⟨fun e => (by cases e), fun e => absurd e HN.out⟩, Below.refl _ _⟩
  rw [← hn]
  have HN : Hid (l.length = l2.length) := hn
  clear hn
  go_enter Tryz.func22, Tryz.ntmps22
  go_wp2
  go_loopw [5] (fun i wr => ∃ k : Nat, i = .int .i64 k ∧ k ≤ l.length ∧ Below w.heap.size w wr ∧ Hid (∀ j (h1 : j < l.length) (h2 : j < l2.length), j < k → l[j] = l2[j])) (fun i _ => l.length - (intOf i).toNat)
  case atStart => exact ⟨0, rfl, Nat.zero_le _, Below.refl _ _, fun j _ _ h => by omega⟩
  case round =>
    obtain ⟨k, rfl, hk, hB, HE⟩ := hrel
    by_cases hlt : k < l.length
    · have hlt' : (k : Int) < (l.length : Int) := by omega
      have hk2 : k < l2.length := by have := HN.out; omega
      obtain ⟨b, off, rfl, hb, hc⟩ := (h.below hB) k hlt
      obtain ⟨b2, off2, rfl, hb2, hc2⟩ := (h2.below hB) k hk2
      obtain ⟨x0, x1⟩ := hc k hlt
      obtain ⟨y0, y1⟩ := hc2 k hk2
      have HI : Hid (l[k] = l2[k] ∨ ¬ l[k] = l2[k]) := Classical.em _
      have HNX : Hid (l[k] = l2[k] → ∀ j (h1 : j < l.length) (h2 : j < l2.length), j < k + 1 → l[j] = l2[j]) := fun e j h1 h2 hj => by
        rcases Nat.lt_or_ge j k with q | q
        · exact HE.out j h1 h2 q
        · have : j = k := by omega
          subst this; exact e
      have HNO : Hid (¬ l[k] = l2[k] → ¬ l = l2) := fun e q => e (by subst q; rfl)
      have HS : Hid (∀ (_ : l[k] = l2[k]), sameR ⟨l[k].name, l[k].id⟩ ⟨l2[k].name, l2[k].id⟩ = true) := fun e => (sameR_iff (x := l[k]) (y := l2[k])).2 e
      have HT : Hid (∀ (_ : ¬ l[k] = l2[k]), sameR ⟨l[k].name, l[k].id⟩ ⟨l2[k].name, l2[k].id⟩ = false) := fun e => bool_no (sameR_iff (x := l[k]) (y := l2[k])) e
      have hgd := fun op a b w => run_eqGuard_agg (P := Tryz.prog) w op 65 a b #[.string l[k].name, .int .i64 l[k].id] #[.string l2[k].name, .int .i64 l2[k].id] (by kernel_rfl)
      have hq := neqR2 l[k].name l2[k].name l[k].id l2[k].id
      clear hc hc2 h h2
      go_wp2_with fail
      have hdr := (Below.refl wr.heap.size wr).drew
      have hBD := hB.trans (hdr.mono hB.size)
      have hS0 : ( (wr.drew.cell? ⟨b, off + k * 2, none⟩ = some (.string l[k].name) ∧ wr.drew.cell? ⟨b, off + k * 2 + 1, none⟩ = some (.int .i64 l[k].id)) ∧ (wr.drew.cell? ⟨b2, off2 + k * 2, none⟩ = some (.string l2[k].name) ∧ wr.drew.cell? ⟨b2, off2 + k * 2 + 1, none⟩ = some (.int .i64 l2[k].id))) := ⟨⟨x0, x1⟩, ⟨y0, y1⟩⟩
      refine wp_region_E (fun W => (W.cell? ⟨b, off + k * 2, none⟩ = some (.string l[k].name) ∧ W.cell? ⟨b, off + k * 2 + 1, none⟩ = some (.int .i64 l[k].id)) ∧ (W.cell? ⟨b2, off2 + k * 2, none⟩ = some (.string l2[k].name) ∧ W.cell? ⟨b2, off2 + k * 2 + 1, none⟩ = some (.int .i64 l2[k].id))) (fun _ => false) (by kernel_rfl) hS0 (fun hS => ?_)
      generalize wr.drew = W0 at *
      clear hS0 hdr hB x0 x1 y0 y1
      refine wpAnyE.take (i := 0) (v := ?_) rfl (by kernel_rfl) (by kernel_rfl) (by kernel_rfl) (by kernel_rfl) (fun _ _ _ h => h) (Or.inl ⟨by rfl, ?_⟩) (by assumption) ?_
      rotate_left
      · intro w hSw; obtain ⟨⟨z0, z1⟩, ⟨u0, u1⟩⟩ := hSw; go_simp; with_reducible rfl
      try simp only [Act.put, List.getElem_toArray, List.getElem_cons_zero, List.setIfInBounds_toArray, List.set_cons_zero, List.set_cons_succ]
      refine wpAnyE.take (i := 1) (v := ?_) rfl (by kernel_rfl) (by kernel_rfl) (by kernel_rfl) (by kernel_rfl) (fun _ _ _ h => h) (Or.inl ⟨by rfl, ?_⟩) (by assumption) ?_
      rotate_left
      · intro w hSw; obtain ⟨⟨z0, z1⟩, ⟨u0, u1⟩⟩ := hSw; go_simp; with_reducible rfl
      try simp only [Act.put, List.getElem_toArray, List.getElem_cons_succ, List.getElem_cons_zero, List.setIfInBounds_toArray, List.set_cons_zero, List.set_cons_succ]
      refine wpAnyE.take (i := 2) (v := ?_) rfl (by kernel_rfl) (by kernel_rfl) (by kernel_rfl) (by kernel_rfl) (fun _ _ _ h => h) (Or.inl ⟨by rfl, ?_⟩) (by assumption) ?_
      rotate_left
      · intro w hSw; obtain ⟨⟨z0, z1⟩, ⟨u0, u1⟩⟩ := hSw; go_simp; with_reducible rfl
      try simp only [Act.put, List.getElem_toArray, List.getElem_cons_succ, List.getElem_cons_zero, List.setIfInBounds_toArray, List.set_cons_zero, List.set_cons_succ]
      refine wpAnyE.take (i := 3) (v := ?_) rfl (by kernel_rfl) (by kernel_rfl) (by kernel_rfl) (by kernel_rfl) (fun _ _ _ h => h) (Or.inl ⟨by rfl, ?_⟩) (by assumption) ?_
      rotate_left
      · intro w hSw; obtain ⟨⟨z0, z1⟩, ⟨u0, u1⟩⟩ := hSw; go_simp; with_reducible rfl
      try simp only [Act.put, List.getElem_toArray, List.getElem_cons_succ, List.getElem_cons_zero, List.setIfInBounds_toArray, List.set_cons_zero, List.set_cons_succ]
      refine wpAnyE.take (i := 4) (v := ?_) rfl (by kernel_rfl) (by kernel_rfl) (by kernel_rfl) (by kernel_rfl) (fun _ _ _ h => h) (Or.inl ⟨by rfl, ?_⟩) (by assumption) ?_
      rotate_left
      · intro w hSw; obtain ⟨⟨z0, z1⟩, ⟨u0, u1⟩⟩ := hSw; go_simp; with_reducible rfl
      try simp only [Act.put, List.getElem_toArray, List.getElem_cons_succ, List.getElem_cons_zero, List.setIfInBounds_toArray, List.set_cons_zero, List.set_cons_succ]
      refine wpAnyE.take (i := 5) (v := ?_) rfl (by kernel_rfl) (by kernel_rfl) (by kernel_rfl) (by kernel_rfl) (fun _ _ _ h => h) (Or.inl ⟨by rfl, ?_⟩) (by assumption) ?_
      rotate_left
      · intro w hSw; obtain ⟨⟨z0, z1⟩, ⟨u0, u1⟩⟩ := hSw; go_simp; with_reducible rfl
      try simp only [Act.put, List.getElem_toArray, List.getElem_cons_succ, List.getElem_cons_zero, List.setIfInBounds_toArray, List.set_cons_zero, List.set_cons_succ]
      refine wpAnyE.take (i := 6) (v := ?_) rfl (by kernel_rfl) (by kernel_rfl) (by kernel_rfl) (by kernel_rfl) (fun _ _ _ h => h) (Or.inl ⟨by rfl, ?_⟩) (by assumption) ?_
      rotate_left
      · intro w hSw; obtain ⟨⟨z0, z1⟩, ⟨u0, u1⟩⟩ := hSw; go_simp; with_reducible rfl
      try simp only [Act.put, List.getElem_toArray, List.getElem_cons_succ, List.getElem_cons_zero, List.setIfInBounds_toArray, List.set_cons_zero, List.set_cons_succ]
      refine wpAnyE.take (i := 7) (v := ?_) rfl (by kernel_rfl) (by kernel_rfl) (by kernel_rfl) (by kernel_rfl) (fun _ _ _ h => h) (Or.inl ⟨by rfl, ?_⟩) (by assumption) ?_
      rotate_left
      · intro w hSw; obtain ⟨⟨z0, z1⟩, ⟨u0, u1⟩⟩ := hSw; go_simp; with_reducible rfl
      try simp only [Act.put, List.getElem_toArray, List.getElem_cons_succ, List.getElem_cons_zero, List.setIfInBounds_toArray, List.set_cons_zero, List.set_cons_succ]
      refine wpAnyE.take (i := 8) (v := ?_) rfl (by kernel_rfl) (by kernel_rfl) (by kernel_rfl) (by kernel_rfl) (fun _ _ _ h => h) (Or.inl ⟨by rfl, ?_⟩) (by assumption) ?_
      rotate_left
      · intro w hSw; obtain ⟨⟨z0, z1⟩, ⟨u0, u1⟩⟩ := hSw; go_simp; with_reducible rfl
      try simp only [Act.put, List.getElem_toArray, List.getElem_cons_succ, List.getElem_cons_zero, List.setIfInBounds_toArray, List.set_cons_zero, List.set_cons_succ]
      refine wpAnyE.done (by kernel_rfl) ?_
      clear hS
      rcases HI.out with he | he
      · have hs := HS.out he
        rw [hs]
        have HX : Hid (∀ j (h1 : j < l.length) (h2 : j < l2.length), j < k + 1 → l[j] = l2[j]) := HNX.out he
        clear HE HNX HNO HS HT HI he hs
        go_wp2
        go_roundw
        case rel => exact ⟨k + 1, by go_num, by omega, hBD, HX⟩
        case measure => simp [intOf]; omega
      · have hs := HT.out he
        rw [hs]
        have HX : Hid (¬ l = l2) := HNO.out he
        clear HE HNX HNO HS HT HI he hs
        go_wp2
        go_ret
        exact ⟨false, rfl, ⟨fun e => (by cases e), fun e => absurd e HX.out⟩, hBD⟩
    · have hkl : k = l.length := by omega
      have HX : Hid (l = l2) := List.ext_getElem HN.out (fun j h1 h2 => HE.out j h1 h2 (by omega))
      clear HE
      subst hkl
      go_wp2
      go_ret
      exact ⟨true, rfl, ⟨fun _ => HX.out, fun _ => rfl⟩, hB⟩

set_option maxHeartbeats 2000000 in
theorem sameUps_any (a : Option Addr) (c : Nat) (l : List Up) (a2 : Option Addr) (c2 : Nat) (l2 : List Up) (w : World) (h : HoldsU w a l) (h2 : HoldsU w a2 l2) (hl : l.length ≤ 9223372036854775807) :
    Calls Tryz.prog 63 #[.slice a l.length c, .slice a2 l2.length c2] w fun e w' => ∃ r, e = .returned (.bool r) ∧ (r = true ↔ l = l2) ∧ Below w.heap.size w w' := by
  by_cases hn : l.length = l2.length
  case neg =>
    have zn : ((l.length : Int) != (l2.length : Int)) = true := by simpa using (by omega : ¬ ((l.length : Int) = (l2.length : Int)))
    have HN : Hid (¬ l = l2) := fun e => hn (by rw [e])
    clear hn
    go_enter Tryz.func63, Tryz.ntmps63
    go_wp2
    go_ret
    exact ⟨false, rfl, ⟨fun e => (by cases e), fun e => absurd e HN.out⟩, Below.refl _ _⟩
  rw [← hn]
  have HN : Hid (l.length = l2.length) := hn
  clear hn
  go_enter Tryz.func63, Tryz.ntmps63
  go_wp2
  go_loopw [5] (fun i wr => ∃ k : Nat, i = .int .i64 k ∧ k ≤ l.length ∧ Below w.heap.size w wr ∧ Hid (∀ j (h1 : j < l.length) (h2 : j < l2.length), j < k → l[j] = l2[j])) (fun i _ => l.length - (intOf i).toNat)
  case atStart => exact ⟨0, rfl, Nat.zero_le _, Below.refl _ _, fun j _ _ h => by omega⟩
  case round =>
    obtain ⟨k, rfl, hk, hB, HE⟩ := hrel
    by_cases hlt : k < l.length
    · have hlt' : (k : Int) < (l.length : Int) := by omega
      have hk2 : k < l2.length := by have := HN.out; omega
      obtain ⟨b, off, rfl, hb, hc⟩ := (h.below hB) k hlt
      obtain ⟨b2, off2, rfl, hb2, hc2⟩ := (h2.below hB) k hk2
      obtain ⟨x0, x1, x2⟩ := hc k hlt
      obtain ⟨y0, y1, y2⟩ := hc2 k hk2
      have HI : Hid (l[k] = l2[k] ∨ ¬ l[k] = l2[k]) := Classical.em _
      have HNX : Hid (l[k] = l2[k] → ∀ j (h1 : j < l.length) (h2 : j < l2.length), j < k + 1 → l[j] = l2[j]) := fun e j h1 h2 hj => by
        rcases Nat.lt_or_ge j k with q | q
        · exact HE.out j h1 h2 q
        · have : j = k := by omega
          subst this; exact e
      have HNO : Hid (¬ l[k] = l2[k] → ¬ l = l2) := fun e q => e (by subst q; rfl)
      have HS : Hid (∀ (_ : l[k] = l2[k]), sameU3 ⟨l[k].name, l[k].old, l[k].new⟩ ⟨l2[k].name, l2[k].old, l2[k].new⟩ = true) := fun e => (sameU3_iff (x := l[k]) (y := l2[k])).2 e
      have HT : Hid (∀ (_ : ¬ l[k] = l2[k]), sameU3 ⟨l[k].name, l[k].old, l[k].new⟩ ⟨l2[k].name, l2[k].old, l2[k].new⟩ = false) := fun e => bool_no (sameU3_iff (x := l[k]) (y := l2[k])) e
      have hgd := fun op a b w => run_eqGuard_agg (P := Tryz.prog) w op 40 a b #[.string l[k].name, .int .i64 l[k].old, .int .i64 l[k].new] #[.string l2[k].name, .int .i64 l2[k].old, .int .i64 l2[k].new] (by kernel_rfl)
      have hq := neqU2 l[k].name l2[k].name l[k].old l2[k].old l[k].new l2[k].new
      clear hc hc2 h h2
      go_wp2_with fail
      have hdr := (Below.refl wr.heap.size wr).drew
      have hBD := hB.trans (hdr.mono hB.size)
      have hS0 : ( (wr.drew.cell? ⟨b, off + k * 3, none⟩ = some (.string l[k].name) ∧ wr.drew.cell? ⟨b, off + k * 3 + 1, none⟩ = some (.int .i64 l[k].old) ∧ wr.drew.cell? ⟨b, off + k * 3 + 2, none⟩ = some (.int .i64 l[k].new)) ∧ (wr.drew.cell? ⟨b2, off2 + k * 3, none⟩ = some (.string l2[k].name) ∧ wr.drew.cell? ⟨b2, off2 + k * 3 + 1, none⟩ = some (.int .i64 l2[k].old) ∧ wr.drew.cell? ⟨b2, off2 + k * 3 + 2, none⟩ = some (.int .i64 l2[k].new))) := ⟨⟨x0, x1, x2⟩, ⟨y0, y1, y2⟩⟩
      refine wp_region_E (fun W => (W.cell? ⟨b, off + k * 3, none⟩ = some (.string l[k].name) ∧ W.cell? ⟨b, off + k * 3 + 1, none⟩ = some (.int .i64 l[k].old) ∧ W.cell? ⟨b, off + k * 3 + 2, none⟩ = some (.int .i64 l[k].new)) ∧ (W.cell? ⟨b2, off2 + k * 3, none⟩ = some (.string l2[k].name) ∧ W.cell? ⟨b2, off2 + k * 3 + 1, none⟩ = some (.int .i64 l2[k].old) ∧ W.cell? ⟨b2, off2 + k * 3 + 2, none⟩ = some (.int .i64 l2[k].new))) (fun _ => false) (by kernel_rfl) hS0 (fun hS => ?_)
      generalize wr.drew = W0 at *
      clear hS0 hdr hB x0 x1 x2 y0 y1 y2
      refine wpAnyE.take (i := 0) (v := ?_) rfl (by kernel_rfl) (by kernel_rfl) (by kernel_rfl) (by kernel_rfl) (fun _ _ _ h => h) (Or.inl ⟨by rfl, ?_⟩) (by assumption) ?_
      rotate_left
      · intro w hSw; obtain ⟨⟨z0, z1, z2⟩, ⟨u0, u1, u2⟩⟩ := hSw; go_simp; with_reducible rfl
      try simp only [Act.put, List.getElem_toArray, List.getElem_cons_zero, List.setIfInBounds_toArray, List.set_cons_zero, List.set_cons_succ]
      refine wpAnyE.take (i := 1) (v := ?_) rfl (by kernel_rfl) (by kernel_rfl) (by kernel_rfl) (by kernel_rfl) (fun _ _ _ h => h) (Or.inl ⟨by rfl, ?_⟩) (by assumption) ?_
      rotate_left
      · intro w hSw; obtain ⟨⟨z0, z1, z2⟩, ⟨u0, u1, u2⟩⟩ := hSw; go_simp; with_reducible rfl
      try simp only [Act.put, List.getElem_toArray, List.getElem_cons_succ, List.getElem_cons_zero, List.setIfInBounds_toArray, List.set_cons_zero, List.set_cons_succ]
      refine wpAnyE.take (i := 2) (v := ?_) rfl (by kernel_rfl) (by kernel_rfl) (by kernel_rfl) (by kernel_rfl) (fun _ _ _ h => h) (Or.inl ⟨by rfl, ?_⟩) (by assumption) ?_
      rotate_left
      · intro w hSw; obtain ⟨⟨z0, z1, z2⟩, ⟨u0, u1, u2⟩⟩ := hSw; go_simp; with_reducible rfl
      try simp only [Act.put, List.getElem_toArray, List.getElem_cons_succ, List.getElem_cons_zero, List.setIfInBounds_toArray, List.set_cons_zero, List.set_cons_succ]
      refine wpAnyE.take (i := 3) (v := ?_) rfl (by kernel_rfl) (by kernel_rfl) (by kernel_rfl) (by kernel_rfl) (fun _ _ _ h => h) (Or.inl ⟨by rfl, ?_⟩) (by assumption) ?_
      rotate_left
      · intro w hSw; obtain ⟨⟨z0, z1, z2⟩, ⟨u0, u1, u2⟩⟩ := hSw; go_simp; with_reducible rfl
      try simp only [Act.put, List.getElem_toArray, List.getElem_cons_succ, List.getElem_cons_zero, List.setIfInBounds_toArray, List.set_cons_zero, List.set_cons_succ]
      refine wpAnyE.take (i := 4) (v := ?_) rfl (by kernel_rfl) (by kernel_rfl) (by kernel_rfl) (by kernel_rfl) (fun _ _ _ h => h) (Or.inl ⟨by rfl, ?_⟩) (by assumption) ?_
      rotate_left
      · intro w hSw; obtain ⟨⟨z0, z1, z2⟩, ⟨u0, u1, u2⟩⟩ := hSw; go_simp; with_reducible rfl
      try simp only [Act.put, List.getElem_toArray, List.getElem_cons_succ, List.getElem_cons_zero, List.setIfInBounds_toArray, List.set_cons_zero, List.set_cons_succ]
      refine wpAnyE.take (i := 5) (v := ?_) rfl (by kernel_rfl) (by kernel_rfl) (by kernel_rfl) (by kernel_rfl) (fun _ _ _ h => h) (Or.inl ⟨by rfl, ?_⟩) (by assumption) ?_
      rotate_left
      · intro w hSw; obtain ⟨⟨z0, z1, z2⟩, ⟨u0, u1, u2⟩⟩ := hSw; go_simp; with_reducible rfl
      try simp only [Act.put, List.getElem_toArray, List.getElem_cons_succ, List.getElem_cons_zero, List.setIfInBounds_toArray, List.set_cons_zero, List.set_cons_succ]
      refine wpAnyE.take (i := 6) (v := ?_) rfl (by kernel_rfl) (by kernel_rfl) (by kernel_rfl) (by kernel_rfl) (fun _ _ _ h => h) (Or.inl ⟨by rfl, ?_⟩) (by assumption) ?_
      rotate_left
      · intro w hSw; obtain ⟨⟨z0, z1, z2⟩, ⟨u0, u1, u2⟩⟩ := hSw; go_simp; with_reducible rfl
      try simp only [Act.put, List.getElem_toArray, List.getElem_cons_succ, List.getElem_cons_zero, List.setIfInBounds_toArray, List.set_cons_zero, List.set_cons_succ]
      refine wpAnyE.take (i := 7) (v := ?_) rfl (by kernel_rfl) (by kernel_rfl) (by kernel_rfl) (by kernel_rfl) (fun _ _ _ h => h) (Or.inl ⟨by rfl, ?_⟩) (by assumption) ?_
      rotate_left
      · intro w hSw; obtain ⟨⟨z0, z1, z2⟩, ⟨u0, u1, u2⟩⟩ := hSw; go_simp; with_reducible rfl
      try simp only [Act.put, List.getElem_toArray, List.getElem_cons_succ, List.getElem_cons_zero, List.setIfInBounds_toArray, List.set_cons_zero, List.set_cons_succ]
      refine wpAnyE.take (i := 8) (v := ?_) rfl (by kernel_rfl) (by kernel_rfl) (by kernel_rfl) (by kernel_rfl) (fun _ _ _ h => h) (Or.inl ⟨by rfl, ?_⟩) (by assumption) ?_
      rotate_left
      · intro w hSw; obtain ⟨⟨z0, z1, z2⟩, ⟨u0, u1, u2⟩⟩ := hSw; go_simp; with_reducible rfl
      try simp only [Act.put, List.getElem_toArray, List.getElem_cons_succ, List.getElem_cons_zero, List.setIfInBounds_toArray, List.set_cons_zero, List.set_cons_succ]
      refine wpAnyE.done (by kernel_rfl) ?_
      clear hS
      rcases HI.out with he | he
      · have hs := HS.out he
        rw [hs]
        have HX : Hid (∀ j (h1 : j < l.length) (h2 : j < l2.length), j < k + 1 → l[j] = l2[j]) := HNX.out he
        clear HE HNX HNO HS HT HI he hs
        go_wp2
        go_roundw
        case rel => exact ⟨k + 1, by go_num, by omega, hBD, HX⟩
        case measure => simp [intOf]; omega
      · have hs := HT.out he
        rw [hs]
        have HX : Hid (¬ l = l2) := HNO.out he
        clear HE HNX HNO HS HT HI he hs
        go_wp2
        go_ret
        exact ⟨false, rfl, ⟨fun e => (by cases e), fun e => absurd e HX.out⟩, hBD⟩
    · have hkl : k = l.length := by omega
      have HX : Hid (l = l2) := List.ext_getElem HN.out (fun j h1 h2 => HE.out j h1 h2 (by omega))
      clear HE
      subst hkl
      go_wp2
      go_ret
      exact ⟨true, rfl, ⟨fun _ => HX.out, fun _ => rfl⟩, hB⟩
end

section
open Go.RowKit
set_option maxRecDepth 100000

theorem sameO_iff {x y : Ob} : sameO x.id x.kind x.links x.text y.id y.kind y.links y.text = true ↔ x = y := by
  unfold sameO sameB
  constructor
  · intro h
    simp only [Bool.and_eq_true, decide_eq_true_eq] at h
    obtain ⟨⟨⟨h1, h2⟩, h3⟩, h4⟩ := h
    cases x; cases y
    simp only [Ob.mk.injEq]
    exact ⟨h1, h2, h4, ByteArray.ext (Array.toList_inj.1 (by simpa [ByteArray.toList_eq] using h3))⟩
  · rintro rfl; simp

set_option maxHeartbeats 2000000 in
theorem sameStore_any (a : Option Addr) (c : Nat) (l : List Ob) (a2 : Option Addr) (c2 : Nat) (l2 : List Ob) (w : World) (h : HoldsS w a l) (h2 : HoldsS w a2 l2) (hl : l.length ≤ 9223372036854775807) :
    Calls Tryz.prog 34 #[.slice a l.length c, .slice a2 l2.length c2] w fun e w' => ∃ r, e = .returned (.bool r) ∧ (r = true ↔ l = l2) ∧ Below w.heap.size w w' := by
  by_cases hn : l.length = l2.length
  case neg =>
    have zn : ((l.length : Int) != (l2.length : Int)) = true := by simpa using (by omega : ¬ ((l.length : Int) = (l2.length : Int)))
    have HN : Hid (¬ l = l2) := fun e => hn (by rw [e])
    clear hn
    go_enter Tryz.func34, Tryz.ntmps34
    go_wp2
    go_ret
    exact ⟨false, rfl, ⟨fun e => (by cases e), fun e => absurd e HN.out⟩, Below.refl _ _⟩
  rw [← hn]
  have HN : Hid (l.length = l2.length) := hn
  clear hn
  go_enter Tryz.func34, Tryz.ntmps34
  go_wp2
  go_loopw [5] (fun i wr => ∃ k : Nat, i = .int .i64 k ∧ k ≤ l.length ∧ Below w.heap.size w wr ∧ Hid (∀ j (h1 : j < l.length) (h2 : j < l2.length), j < k → l[j] = l2[j])) (fun i _ => l.length - (intOf i).toNat)
  case atStart => exact ⟨0, rfl, Nat.zero_le _, Below.refl _ _, fun j _ _ h => by omega⟩
  case round =>
    obtain ⟨k, rfl, hk, hB, HE⟩ := hrel
    by_cases hlt : k < l.length
    · have hlt' : (k : Int) < (l.length : Int) := by omega
      have hk2 : k < l2.length := by have := HN.out; omega
      obtain ⟨b, off, rfl, hb, hc⟩ := (h.below hB) k hlt
      obtain ⟨b2, off2, rfl, hb2, hc2⟩ := (h2.below hB) k hk2
      obtain ⟨sa, sc, x0, x1, x2, x3, x4, x5⟩ := hc k hlt
      obtain ⟨ta, tc, y0, y1, y2, y3, y4, y5⟩ := hc2 k hk2
      have HI : Hid (l[k] = l2[k] ∨ ¬ l[k] = l2[k]) := Classical.em _
      have HNX : Hid (l[k] = l2[k] → ∀ j (h1 : j < l.length) (h2 : j < l2.length), j < k + 1 → l[j] = l2[j]) := fun e j h1 h2 hj => by
        rcases Nat.lt_or_ge j k with q | q
        · exact HE.out j h1 h2 q
        · have : j = k := by omega
          subst this; exact e
      have HNO : Hid (¬ l[k] = l2[k] → ¬ l = l2) := fun e q => e (by subst q; rfl)
      have HS : Hid (∀ (_ : l[k] = l2[k]), sameO l[k].id l[k].kind l[k].links l[k].text l2[k].id l2[k].kind l2[k].links l2[k].text = true) := fun e => sameO_iff.2 e
      have HT : Hid (∀ (_ : ¬ l[k] = l2[k]), sameO l[k].id l[k].kind l[k].links l[k].text l2[k].id l2[k].kind l2[k].links l2[k].text = false) := fun e => bool_no sameO_iff e
      clear hc hc2 h h2
      go_wp2_with fail
      have hdr := (Below.refl wr.heap.size wr).drew
      have hBD := hB.trans (hdr.mono hB.size)
      have hb' : b < wr.drew.heap.size := hb
      have hb2' : b2 < wr.drew.heap.size := hb2
      have hS0 : (wr.drew.cell? ⟨b, off + k * 4, none⟩ = some (.int .i64 l[k].id) ∧ wr.drew.cell? ⟨b, off + k * 4 + 1, none⟩ = some (.int .i64 l[k].kind) ∧ wr.drew.cell? ⟨b, off + k * 4 + 2, none⟩ = some (.slice sa l[k].links.length sc) ∧ wr.drew.cell? ⟨b, off + k * 4 + 3, none⟩ = some (.string l[k].text)) ∧ (wr.drew.cell? ⟨b2, off2 + k * 4, none⟩ = some (.int .i64 l2[k].id) ∧ wr.drew.cell? ⟨b2, off2 + k * 4 + 1, none⟩ = some (.int .i64 l2[k].kind) ∧ wr.drew.cell? ⟨b2, off2 + k * 4 + 2, none⟩ = some (.slice ta l2[k].links.length tc) ∧ wr.drew.cell? ⟨b2, off2 + k * 4 + 3, none⟩ = some (.string l2[k].text)) := ⟨⟨x0, x1, x2, x3⟩, ⟨y0, y1, y2, y3⟩⟩
      have hso := sameObject_any l[k].id l[k].kind sa sc l[k].links l[k].text l2[k].id l2[k].kind ta tc l2[k].links l2[k].text _ (x4.below hdr) (y4.below hdr) x5
      refine wp_region_E (fun W => (W.cell? ⟨b, off + k * 4, none⟩ = some (.int .i64 l[k].id) ∧ W.cell? ⟨b, off + k * 4 + 1, none⟩ = some (.int .i64 l[k].kind) ∧ W.cell? ⟨b, off + k * 4 + 2, none⟩ = some (.slice sa l[k].links.length sc) ∧ W.cell? ⟨b, off + k * 4 + 3, none⟩ = some (.string l[k].text)) ∧ (W.cell? ⟨b2, off2 + k * 4, none⟩ = some (.int .i64 l2[k].id) ∧ W.cell? ⟨b2, off2 + k * 4 + 1, none⟩ = some (.int .i64 l2[k].kind) ∧ W.cell? ⟨b2, off2 + k * 4 + 2, none⟩ = some (.slice ta l2[k].links.length tc) ∧ W.cell? ⟨b2, off2 + k * 4 + 3, none⟩ = some (.string l2[k].text))) (fun _ => false) (by kernel_rfl) hS0 (fun hS => ?_)
      generalize wr.drew = W0 at *
      clear hS0 hdr hB x0 x1 x2 x3 x4 y0 y1 y2 y3 y4
      refine wpAnyE.take (i := 0) (v := ?_) rfl (by kernel_rfl) (by kernel_rfl) (by kernel_rfl) (by kernel_rfl) (fun _ _ _ h => h) (Or.inl ⟨by rfl, ?_⟩) (by assumption) ?_
      rotate_left
      · intro w hSw; obtain ⟨⟨z0, z1, z2, z3⟩, ⟨u0, u1, u2, u3⟩⟩ := hSw; go_simp; with_reducible rfl
      try simp only [Act.put, List.getElem_toArray, List.getElem_cons_zero, List.setIfInBounds_toArray, List.set_cons_zero, List.set_cons_succ]
      refine wpAnyE.take (i := 1) (v := ?_) rfl (by kernel_rfl) (by kernel_rfl) (by kernel_rfl) (by kernel_rfl) (fun _ _ _ h => h) (Or.inl ⟨by rfl, ?_⟩) (by assumption) ?_
      rotate_left
      · intro w hSw; obtain ⟨⟨z0, z1, z2, z3⟩, ⟨u0, u1, u2, u3⟩⟩ := hSw; go_simp; with_reducible rfl
      try simp only [Act.put, List.getElem_toArray, List.getElem_cons_succ, List.getElem_cons_zero, List.setIfInBounds_toArray, List.set_cons_zero, List.set_cons_succ]
      refine wpAnyE.take (i := 2) (v := ?_) rfl (by kernel_rfl) (by kernel_rfl) (by kernel_rfl) (by kernel_rfl) (fun _ _ _ h => h) (Or.inl ⟨by rfl, ?_⟩) (by assumption) ?_
      rotate_left
      · intro w hSw; obtain ⟨⟨z0, z1, z2, z3⟩, ⟨u0, u1, u2, u3⟩⟩ := hSw; go_simp; with_reducible rfl
      try simp only [Act.put, List.getElem_toArray, List.getElem_cons_succ, List.getElem_cons_zero, List.setIfInBounds_toArray, List.set_cons_zero, List.set_cons_succ]
      refine wpAnyE.take (i := 3) (v := ?_) rfl (by kernel_rfl) (by kernel_rfl) (by kernel_rfl) (by kernel_rfl) (fun _ _ _ h => h) (Or.inl ⟨by rfl, ?_⟩) (by assumption) ?_
      rotate_left
      · intro w hSw; obtain ⟨⟨z0, z1, z2, z3⟩, ⟨u0, u1, u2, u3⟩⟩ := hSw; go_simp; with_reducible rfl
      try simp only [Act.put, List.getElem_toArray, List.getElem_cons_succ, List.getElem_cons_zero, List.setIfInBounds_toArray, List.set_cons_zero, List.set_cons_succ]
      refine wpAnyE.take (i := 4) (v := ?_) rfl (by kernel_rfl) (by kernel_rfl) (by kernel_rfl) (by kernel_rfl) (fun _ _ _ h => h) (Or.inl ⟨by rfl, ?_⟩) (by assumption) ?_
      rotate_left
      · intro w hSw; obtain ⟨⟨z0, z1, z2, z3⟩, ⟨u0, u1, u2, u3⟩⟩ := hSw; go_simp; with_reducible rfl
      try simp only [Act.put, List.getElem_toArray, List.getElem_cons_succ, List.getElem_cons_zero, List.setIfInBounds_toArray, List.set_cons_zero, List.set_cons_succ]
      refine wpAnyE.take (i := 5) (v := ?_) rfl (by kernel_rfl) (by kernel_rfl) (by kernel_rfl) (by kernel_rfl) (fun _ _ _ h => h) (Or.inl ⟨by rfl, ?_⟩) (by assumption) ?_
      rotate_left
      · intro w hSw; obtain ⟨⟨z0, z1, z2, z3⟩, ⟨u0, u1, u2, u3⟩⟩ := hSw; go_simp; with_reducible rfl
      try simp only [Act.put, List.getElem_toArray, List.getElem_cons_succ, List.getElem_cons_zero, List.setIfInBounds_toArray, List.set_cons_zero, List.set_cons_succ]
      refine wpAnyE.take (i := 6) (v := ?_) rfl (by kernel_rfl) (by kernel_rfl) (by kernel_rfl) (by kernel_rfl) (fun _ _ _ h => h) (Or.inl ⟨by rfl, ?_⟩) (by assumption) ?_
      rotate_left
      · intro w hSw; obtain ⟨⟨z0, z1, z2, z3⟩, ⟨u0, u1, u2, u3⟩⟩ := hSw; go_simp; with_reducible rfl
      try simp only [Act.put, List.getElem_toArray, List.getElem_cons_succ, List.getElem_cons_zero, List.setIfInBounds_toArray, List.set_cons_zero, List.set_cons_succ]
      refine wpAnyE.take (i := 7) (v := ?_) rfl (by kernel_rfl) (by kernel_rfl) (by kernel_rfl) (by kernel_rfl) (fun _ _ _ h => h) (Or.inl ⟨by rfl, ?_⟩) (by assumption) ?_
      rotate_left
      · intro w hSw; obtain ⟨⟨z0, z1, z2, z3⟩, ⟨u0, u1, u2, u3⟩⟩ := hSw; go_simp; with_reducible rfl
      try simp only [Act.put, List.getElem_toArray, List.getElem_cons_succ, List.getElem_cons_zero, List.setIfInBounds_toArray, List.set_cons_zero, List.set_cons_succ]
      refine wpAnyE.one (i := 8) (by kernel_rfl) rfl (fun K hK => ?_)
      go_simp
      refine hso.mono ?_
      clear hso
      rintro e W1 ⟨rfl, hb1⟩
      have hB1 := hBD.trans (hb1.mono hBD.size)
      have hS1 : (W1.cell? ⟨b, off + k * 4, none⟩ = some (.int .i64 l[k].id) ∧ W1.cell? ⟨b, off + k * 4 + 1, none⟩ = some (.int .i64 l[k].kind) ∧ W1.cell? ⟨b, off + k * 4 + 2, none⟩ = some (.slice sa l[k].links.length sc) ∧ W1.cell? ⟨b, off + k * 4 + 3, none⟩ = some (.string l[k].text)) ∧ (W1.cell? ⟨b2, off2 + k * 4, none⟩ = some (.int .i64 l2[k].id) ∧ W1.cell? ⟨b2, off2 + k * 4 + 1, none⟩ = some (.int .i64 l2[k].kind) ∧ W1.cell? ⟨b2, off2 + k * 4 + 2, none⟩ = some (.slice ta l2[k].links.length tc) ∧ W1.cell? ⟨b2, off2 + k * 4 + 3, none⟩ = some (.string l2[k].text)) := by
        obtain ⟨⟨z0, z1, z2, z3⟩, ⟨u0, u1, u2, u3⟩⟩ := hS
        exact ⟨⟨(hb1.cell (p := ⟨b, off + k * 4, none⟩) hb').trans z0, (hb1.cell (p := ⟨b, off + k * 4 + 1, none⟩) hb').trans z1, (hb1.cell (p := ⟨b, off + k * 4 + 2, none⟩) hb').trans z2, (hb1.cell (p := ⟨b, off + k * 4 + 3, none⟩) hb').trans z3⟩, ⟨(hb1.cell (p := ⟨b2, off2 + k * 4, none⟩) hb2').trans u0, (hb1.cell (p := ⟨b2, off2 + k * 4 + 1, none⟩) hb2').trans u1, (hb1.cell (p := ⟨b2, off2 + k * 4 + 2, none⟩) hb2').trans u2, (hb1.cell (p := ⟨b2, off2 + k * 4 + 3, none⟩) hb2').trans u3⟩⟩
      go_simp
      refine hK _ _ (fun _ => hS1) ?_
      clear hK K hBD hb1
      try simp only [Act.put, List.getElem_toArray, List.getElem_cons_succ, List.getElem_cons_zero, List.setIfInBounds_toArray, List.set_cons_zero, List.set_cons_succ]
      refine wpAnyE.one (i := 9) (by kernel_rfl) rfl (fun K hK => ?_)
      go_simp
      refine hK _ _ (fun _ => hS1) ?_
      clear hK K
      try simp only [Act.put, List.getElem_toArray, List.getElem_cons_succ, List.getElem_cons_zero, List.setIfInBounds_toArray, List.set_cons_zero, List.set_cons_succ]
      refine wpAnyE.done (by kernel_rfl) ?_
      clear hS hS1
      rcases HI.out with he | he
      · have hs := HS.out he
        rw [hs]
        have HX : Hid (∀ j (h1 : j < l.length) (h2 : j < l2.length), j < k + 1 → l[j] = l2[j]) := HNX.out he
        clear HE HNX HNO HS HT HI he hs
        go_wp2
        go_roundw
        case rel => exact ⟨k + 1, by go_num, by omega, hB1, HX⟩
        case measure => simp [intOf]; omega
      · have hs := HT.out he
        rw [hs]
        have HX : Hid (¬ l = l2) := HNO.out he
        clear HE HNX HNO HS HT HI he hs
        go_wp2
        go_ret
        exact ⟨false, rfl, ⟨fun e => (by cases e), fun e => absurd e HX.out⟩, hB1⟩
    · have hkl : k = l.length := by omega
      have HX : Hid (l = l2) := List.ext_getElem HN.out (fun j h1 h2 => HE.out j h1 h2 (by omega))
      clear HE
      subst hkl
      go_wp2
      go_ret
      exact ⟨true, rfl, ⟨fun _ => HX.out, fun _ => rfl⟩, hB⟩
end

section
open Go.RowKit
set_option maxRecDepth 100000
end

section
open Go.RowKit
set_option maxRecDepth 100000
end

section
open Go.RowKit
set_option maxRecDepth 100000
end
end Go.Proofs.YtehmlpkapjdhkaaGreatDoor
