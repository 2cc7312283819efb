import Derived.Test.YtbppoffhpmoplaaA3
import Derived.Deep.AppendLies
import Derived.Laws.BytesArg
namespace Go.Proofs.Ytbppoffhpmoplaa
open Go.RowKit

theorem Try.info5 : (Try.prog.info? 5).map (fun i => (i.zero, i.size, i.bytes)) = some (some (.int .u8 0), 1, 1) := by kernel_rfl
theorem Try.info3 : (Try.prog.info? 3).map (fun i => (i.zero, i.size, i.bytes)) = some (some (.int .i64 0), 1, 8) := by kernel_rfl

/-- What stays while block p and one row are written. -/
structure Stays (p : Nat) (row : Option Nat) (w w' : World) : Prop where
  os : w'.os = w.os
  tape : w'.tape = w.tape
  output : w'.output = w.output
  size : w.heap.size ≤ w'.heap.size
  block : ∀ k, k < w.heap.size → k ≠ p → some k ≠ row → w'.heap[k]? = w.heap[k]?

theorem Stays.refl (p : Nat) (row : Option Nat) (w : World) : Stays p row w w := ⟨rfl, rfl, rfl, Nat.le_refl _, fun _ _ _ _ => rfl⟩

/-- one round: a new block, an append onto the row, a store into p. -/
theorem Stays.round {p : Nat} {row r : Option Nat} {w wr w1 : World} {o : Obj} {u : Value} (h : Stays p row w wr) (hg : (wr.alloc o).grownBy w1 r) (hr : r = row ∨ ∃ g, r = some g ∧ w.heap.size ≤ g) :
    Stays p row w (w1.setCell ⟨p, 0, none⟩ u) := by
  refine ⟨hg.os.trans h.os, hg.tape.trans h.tape, hg.output.trans h.output, ?_, fun k hk hp hrow => ?_⟩
  · have := hg.size; have := h.size; simp [World.setCell] at *; omega
  · have hs := h.size
    rw [Below.heap_setCell _ _ _ _ hp, hg.block k (by simp; omega) (by
      rcases hr with rfl | ⟨g, rfl, hge⟩
      · exact hrow
      · intro e; have : k = g := by simpa using e
        omega), Below.heap_alloc _ _ _ (by omega)]
    exact h.block k hk hp hrow

theorem Stays.below {p B : Nat} {row : Option Nat} {w w' : World} (h : Stays p row w w') (hB : B ≤ w.heap.size) (hp : B ≤ p) (hr : ∀ k, row = some k → B ≤ k) : Below B w w' :=
  ⟨h.os, h.tape, h.output, h.size, fun k hk => h.block k (by omega) (by omega) (fun e => by have := hr k e.symm; omega)⟩

theorem u8_same {x : Int} (h : 0 ≤ x ∧ x ≤ 255) : IntKind.u8.wrap x = x := by
  simp [IntKind.wrap, IntKind.bits, IntKind.signed]; omega

theorem put_round {p base n k : Nat} {v vr v' u : Value} {xs : List Value} {N : List Int} {w wr w1 : World} {o : Obj} {g : Nat} (hlt : k < N.length)
    (hst : Stays p v.ownBlock w wr) (hat : vr.ownBlock = v.ownBlock ∨ ∃ g, vr.ownBlock = some g ∧ w.heap.size ≤ g)
    (hpb : p < base) (hcp : w1.cell? ⟨p, 0, none⟩ = some vr) (hfp : w1.frozen? ⟨p, 0, none⟩ = false)
    (hown' : w1.ownsRow base 5 1 v' (n + k + 1) (xs ++ (N.take k).map (Value.int .u8) ++ [.int .u8 N[k]])) (hgrow : (wr.alloc o).grownBy w1 vr.ownBlock) (hat' : vr.ownBlock = some g ∨ g = wr.heap.size + 1) (hvg : v'.ownBlock = some g) :
    (w1.setCell ⟨p, 0, none⟩ u).cell? ⟨p, 0, none⟩ = some u ∧ (w1.setCell ⟨p, 0, none⟩ u).frozen? ⟨p, 0, none⟩ = false ∧
      (w1.setCell ⟨p, 0, none⟩ u).ownsRow base 5 1 v' (n + (k + 1)) (xs ++ (N.take (k + 1)).map (Value.int .u8)) ∧ Stays p v.ownBlock w (w1.setCell ⟨p, 0, none⟩ u) ∧ (v'.ownBlock = v.ownBlock ∨ ∃ g, v'.ownBlock = some g ∧ w.heap.size ≤ g) := by
  refine ⟨World.cell?_setCell_same _ _ _ hcp, (World.frozen?_setCell _ _ _ _).trans hfp, ?_, hst.round hgrow hat, ?_⟩
  · have e : xs ++ (N.take (k + 1)).map (Value.int .u8) = xs ++ (N.take k).map (Value.int .u8) ++ [.int .u8 N[k]] := by
      rw [List.take_succ_eq_append_getElem hlt]; simp only [List.map_append, List.map_cons, List.map_nil, List.append_assoc]
    rw [e, ← Nat.add_assoc]
    exact ownsRow_setCell_below hown' hpb _
  · have := hst.size
    rcases hat' with e | e
    · rw [hvg, ← e]; exact hat
    · exact Or.inr ⟨_, hvg, by omega⟩

set_option maxHeartbeats 400000 in
theorem put_any (p base n : Nat) (v : Value) (xs : List Value) (a : Option Addr) (c : Nat) (N : List Int) (w : World)
    (hN : Holds w a N) (hr : ∀ x ∈ N, 0 ≤ x ∧ x ≤ 255) (hne : ∀ b off, a = some ⟨b, off, none⟩ → 0 < N.length → b ≠ p ∧ some b ≠ v.ownBlock)
    (hl : n + N.length ≤ 1000) (hpb : p < base) (hbase : base ≤ w.heap.size)
    (hcell : w.cell? ⟨p, 0, none⟩ = some v) (hfr : w.frozen? ⟨p, 0, none⟩ = false) (hown : w.ownsRow base 5 1 v n xs) :
    Calls Try.prog 22 #[.pointer (some ⟨p, 0, none⟩), .slice a N.length c] w
      fun e w' => e = .returned (.tuple #[]) ∧ ∃ v', w'.cell? ⟨p, 0, none⟩ = some v' ∧ w'.frozen? ⟨p, 0, none⟩ = false ∧ w'.ownsRow base 5 1 v' (n + N.length) (xs ++ N.map (Value.int .u8)) ∧
        Stays p v.ownBlock w w' ∧ (v'.ownBlock = v.ownBlock ∨ ∃ g, v'.ownBlock = some g ∧ w.heap.size ≤ g) := by
  obtain ⟨i0, hi, hz0, hz1, hz2⟩ := info_parts Try.info5
  go_enter Try.func22, Try.ntmps22
  go_wp2
  go_loopw [8] (fun i wr => ∃ (k : Nat) (vr : Value), i = .int .i64 k ∧ k ≤ N.length ∧ wr.cell? ⟨p, 0, none⟩ = some vr ∧ wr.frozen? ⟨p, 0, none⟩ = false ∧
      wr.ownsRow base 5 1 vr (n + k) (xs ++ (N.take k).map (Value.int .u8)) ∧ Stays p v.ownBlock w wr ∧ (vr.ownBlock = v.ownBlock ∨ ∃ g, vr.ownBlock = some g ∧ w.heap.size ≤ g))
    (fun i _ => N.length - (intOf i).toNat)
  case atStart => exact ⟨0, v, rfl, Nat.zero_le _, hcell, hfr, by simpa using hown, Stays.refl _ _ _, Or.inl rfl⟩
  case round =>
    obtain ⟨k, vr, rfl, hk, hcr, hfrr, hownr, hst, hat⟩ := hrel
    by_cases hlt : k < N.length
    · obtain ⟨b1, o1, rfl, hb1, hc1⟩ := hN k hlt
      obtain ⟨hbp, hbv⟩ := hne b1 o1 rfl (by omega)
      have hk1 : wr.cell? ⟨b1, o1 + k, none⟩ = some (.int .i64 N[k]) := by
        rw [World.cell?_of_block (a := ⟨b1, o1 + k, none⟩) (hst.block b1 hb1 hbp hbv), hc1 k hlt]; simp [hlt]
      have hx := hr N[k] (List.getElem_mem hlt)
      have hw8 := u8_same hx
      have hsz := hst.size
      clear hc1 hN hne hcell hfr hr
      have HO : Hid (wr.ownsRow base 5 1 vr (n + k) (xs ++ (N.take k).map (Value.int .u8))) := hownr
      clear hownr hown
      go_wp2_with (at_builtin; refine wpList_append_lies _ rfl (.tmp 16) (.tmp 19) 43 rfl base 5 i0 (.int .u8 0) 1 1 Try.underlying43 hi hz0 hz1 hz2 rfl (by decide) vr (n + k) _ rfl (HO.out.alloc _) ⟨wr.heap.size, 0, none⟩ 1 1 [.int .u8 N[k]] rfl rfl ?c1 ?c2 (by decide) ?c3 ?c4 ?c5 (wr.heap.size + 1) (by simp) ?_)
      case c1 => exact cell_one_new _ _ _
      case c2 => intro u hu; simp at hu; subst hu; rfl
      case c3 => unfold maxLen; omega
      case c4 => omega
      case c5 => simp; omega
      intro g cap w1 hown' hgrow hat' _
      have hpo : some p ≠ vr.ownBlock := fun e => by have := (HO.out.lt p e.symm).1; omega
      have hpl : p < wr.heap.size := by omega
      have hcp : w1.cell? ⟨p, 0, none⟩ = some vr := hgrow.cell ((World.cell?_alloc_past _ _ _ hpl).trans hcr) hpo
      have hfp : w1.frozen? ⟨p, 0, none⟩ = false := by
        rw [World.frozen?_of_block (a := ⟨p, 0, none⟩) (hgrow.block p (by simp; omega) hpo)]
        exact (World.frozen?_alloc_past _ _ _ hpl).trans hfrr
      have R := put_round (v' := .slice (some ⟨g, 0, none⟩) (n + k + 1) cap) (u := .slice (some ⟨g, 0, none⟩) (n + k + 1) cap) hlt hst hat hpb hcp hfp (by simpa using hown') hgrow hat' rfl
      clear hown' hgrow hat' hat hst hcr hfrr
      go_wp2
      go_roundw
      case rel => exact ⟨k + 1, _, by go_num, by omega, R⟩
      case measure => simp [intOf]; omega
    · go_wp2
      go_end0
      have hkn : k = N.length := by omega
      subst hkn
      exact ⟨rfl, vr, hcr, hfrr, by simpa using hownr, hst, hat⟩
end Go.Proofs.Ytbppoffhpmoplaa
