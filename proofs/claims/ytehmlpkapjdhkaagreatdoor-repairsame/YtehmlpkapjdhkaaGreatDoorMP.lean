import Derived.Test.YtehmlpkapjdhkaaGreatDoorMU
namespace Go.Proofs.YtehmlpkapjdhkaaGreatDoor
section
open Go.RowKit
set_option maxRecDepth 100000

/-- what Check of a push answers. -/
def pushE (m : List Ob) (us : List Up) : Int := if 12 < m.length then 2 else if eachE m ≠ 0 then eachE m else checkU us
theorem pushE_iff {m : List Ob} {us : List Up} : pushE m us = 0 ↔ m.length ≤ 12 ∧ eachE m = 0 ∧ checkU us = 0 := by
  unfold pushE
  constructor
  · intro h
    split at h
    · omega
    split at h
    · rename_i c; exact absurd h c
    rename_i c
    exact ⟨by omega, Classical.byContradiction c, h⟩
  · rintro ⟨h1, h2, h3⟩
    rw [if_neg (by omega), if_neg (fun e => e h2), h3]
/-- a push, as a value. -/
abbrev pushV (am : Option Addr) (nm cm : Nat) (au : Option Addr) (nu cu : Nat) (f : Bool) : Value := .agg #[.slice am nm cm, .slice au nu cu, .bool f]

set_option maxHeartbeats 2000000 in
theorem pcheck_any (am : Option Addr) (cm : Nat) (m : List Ob) (au : Option Addr) (cu : Nat) (us : List Up) (f : Bool) (w : World) (hg : Glob w) (hm : HoldsS w am m) (hml : m.length ≤ 9223372036854775807) (hu : HoldsU w au us) (hul : us.length ≤ 9223372036854775807) :
    Calls Tryz.prog 79 #[pushV am m.length cm au us.length cu f] w fun e w' => e = .returned (.int .i64 (pushE m us)) ∧ Below w.heap.size w w' := by
  have hA := below_alloc w (.cells #[.slice am m.length cm, .slice au us.length cu, .bool f] 28)
  have hbk := heap_alloc_new w (.cells #[.slice am m.length cm, .slice au us.length cu, .bool f] 28)
  obtain ⟨y0, y1, y2⟩ := c3_of hbk
  by_cases h12 : 12 < m.length
  · have HR : Hid (2 = pushE m us) := by unfold Hid pushE; rw [if_pos h12]
    have z1 : (12 : Int) < (m.length : Int) := by omega
    clear h12
    go_enter Tryz.func79, Tryz.ntmps79
    go_wp2
    go_ret
    exact ⟨ret_int HR.out, hA⟩
  have HP : Hid (pushE m us = if eachE m ≠ 0 then eachE m else checkU us) := by unfold Hid pushE; rw [if_neg h12]
  have z1 : ¬ (12 : Int) < (m.length : Int) := by omega
  have hgA := hg.below hA
  have hmA := hm.below hA
  have huA := hu.below hA
  go_enter Tryz.func79, Tryz.ntmps79
  go_wp2
  generalize w.alloc (.cells #[.slice am m.length cm, .slice au us.length cu, .bool f] 28) = W at *
  obtain ⟨B, hBe⟩ : ∃ B, B = w.heap.size := ⟨_, rfl⟩
  rw [← hBe] at y0 y1 y2 hbk
  rw [← hBe]
  have hBl := heap_lt hbk
  clear hBe hbk
  go_loopw [13] (fun i wr => ∃ k : Nat, i = .int .i64 k ∧ k ≤ m.length ∧ Below W.heap.size W wr ∧ Hid (eachE m = eachE (m.drop k))) (fun i _ => m.length - (intOf i).toNat)
  case atStart => exact ⟨0, rfl, Nat.zero_le _, Below.refl _ _, rfl⟩
  case round =>
    obtain ⟨k, rfl, hk, hBr, H⟩ := hrel
    have hBw := hA.trans (hBr.mono hA.size)
    by_cases hlt : k < m.length
    · obtain ⟨b, off, rfl, hb, hc⟩ := (hmA.below hBr) k hlt
      obtain ⟨sa, sc, x0, x1, x2, x3, x4, x5⟩ := hc k hlt
      clear hc
      have hA2 := below_alloc wr (.cells #[.int .i64 m[k].id, .int .i64 m[k].kind, .slice sa m[k].links.length sc, .string m[k].text] 58)
      have hck := check_any m[k].id m[k].kind sa sc m[k].links m[k].text _ (x4.below hA2) x5
      go_wp2_with fail
      refine hck.mono ?_
      clear hck
      rintro e w1 ⟨rfl, hb1⟩
      have hB1 := (hBr.trans (hA2.mono hBr.size)).trans (hb1.mono (by have := hBr.size; have := hA2.size; omega))
      have hBw1 := hA.trans (hB1.mono hA.size)
      clear hb1 hA2 x0 x1 x2 x3 x4 hBr hBw
      by_cases hz : m[k].err = 0
      · have HN : Hid (eachE m = eachE (m.drop (k + 1))) := ee_next hlt H.out hz
        rw [show checkE m[k].id m[k].kind m[k].links m[k].text.size = 0 from hz]
        clear hz
        go_wp2
        go_roundw
        case rel => exact ⟨k + 1, by go_num, by omega, hB1, HN⟩
        case measure => simp [intOf]; omega
      · have HR : Hid (pushE m us = m[k].err) := by
          have e := ee_bad hlt H.out hz
          unfold Hid
          rw [HP.out, e, if_pos hz]
        have hz' : (checkE m[k].id m[k].kind m[k].links m[k].text.size != 0) = true := by simpa using hz
        clear hz
        go_wp2
        go_ret
        exact ⟨ret_int HR.out.symm, hBw1⟩
    · have HE : Hid (pushE m us = checkU us) := by
        have e := ee_end hlt H.out
        unfold Hid
        rw [HP.out, if_neg (fun q => q e)]
      have x1 := (hBr.cell (p := ⟨B, 1, none⟩) hBl).trans y1
      have huc := ucheck_any au cu us wr (hgA.below hBr) (huA.below hBr) hul
      go_wp2_with fail
      refine huc.mono ?_
      clear huc
      rintro e w1 ⟨rfl, hb1⟩
      have hBw1 := hBw.trans (hb1.mono hBw.size)
      clear hb1 hBw x1
      go_wp2
      go_ret
      exact ⟨ret_int HE.out.symm, hBw1⟩

/-- a replica, as a value. -/
abbrev replV (aS : Option Addr) (ns cs : Nat) (al : Option Addr) (nl cl : Nat) (g ph : Int) (a1 : Option Addr) (n1 c1 : Nat) (a2 : Option Addr) (n2 c2 : Nat) (f : Bool) : Value := .agg #[.slice aS ns cs, .slice al nl cl, .int .i64 g, .int .i64 ph, .slice a1 n1 c1, .slice a2 n2 c2, .bool f]
end

section
open Go.RowKit
set_option maxRecDepth 100000
end

section
open Go.RowKit
set_option maxRecDepth 100000
end

section
open Go.RowKit
set_option maxRecDepth 100000
end

section
open Go.RowKit
set_option maxRecDepth 100000

/-- of a block no cell holds a number but 0. -/
def Zero (W : World) (R : Nat) : Prop := ∀ off n, W.cell? ⟨R, off, none⟩ = some (.int .i64 n) → n = 0
theorem Zero.ne {W : World} {R : Nat} (h : Zero W R) {b off : Nat} {n : Int} (hc : W.cell? ⟨b, off, none⟩ = some (.int .i64 n)) (hn : n ≠ 0) : b ≠ R := fun e => hn (h off n (by rw [← e]; exact hc))
/-- a world that differs in one block. -/
structure But (R : Nat) (W W' : World) : Prop where
  size : W'.heap.size = W.heap.size
  cell : ∀ b off, b ≠ R → W'.cell? ⟨b, off, none⟩ = W.cell? ⟨b, off, none⟩
theorem But.refl (R : Nat) (W : World) : But R W W := ⟨rfl, fun _ _ _ => rfl⟩
theorem But.set {R : Nat} {W W' : World} (h : But R W W') (off : Nat) (v : Value) : But R W (W'.setCell ⟨R, off, none⟩ v) :=
  ⟨(World.size_setCell _ _ _).trans h.size, fun b o hb => (sc_other (fun e => hb (congrArg Addr.block e).symm)).trans (h.cell b o hb)⟩
theorem Holds.but {R : Nat} {W W' : World} (h : But R W W') (z : Zero W R) {a : Option Addr} {L : List Int} (hL : Holds W a L) (hn : ∀ i ∈ L, i ≠ 0) : Holds W' a L := by
  intro i hi
  obtain ⟨b, off, e, hlt, hc⟩ := hL i hi
  have hp : 0 < L.length := by omega
  have h0 := hc 0 hp
  have hne : b ≠ R := z.ne h0 (by rw [List.getD_eq_getElem?_getD, List.getElem?_eq_getElem hp]; exact hn _ (List.getElem_mem hp))
  exact ⟨b, off, e, by rw [h.size]; exact hlt, fun j hj => (h.cell b _ hne).trans (hc j hj)⟩
theorem HoldsS.but {R : Nat} {W W' : World} (h : But R W W') (z : Zero W R) {a : Option Addr} {l : List Ob} (hl : HoldsS W a l) (hn : ∀ x ∈ l, x.id ≠ 0 ∧ ∀ i ∈ x.links, i ≠ 0) : HoldsS W' a l := by
  intro i hi
  obtain ⟨b, off, e, hlt, hc⟩ := hl i hi
  refine ⟨b, off, e, by rw [h.size]; exact hlt, fun j hj => ?_⟩
  obtain ⟨sa, sc, x0, x1, x2, x3, x4, x5⟩ := hc j hj
  have hne : b ≠ R := z.ne x0 (hn _ (List.getElem_mem hj)).1
  exact ⟨sa, sc, (h.cell b _ hne).trans x0, (h.cell b _ hne).trans x1, (h.cell b _ hne).trans x2, (h.cell b _ hne).trans x3, x4.but h z (hn _ (List.getElem_mem hj)).2, x5⟩
theorem HoldsR.but {R : Nat} {W W' : World} (h : But R W W') (z : Zero W R) {a : Option Addr} {l : List Rf} (hl : HoldsR W a l) (hn : ∀ x ∈ l, x.id ≠ 0) : HoldsR W' a l := by
  intro i hi
  obtain ⟨b, off, e, hlt, hc⟩ := hl i hi
  refine ⟨b, off, e, by rw [h.size]; exact hlt, fun j hj => ?_⟩
  obtain ⟨x0, x1⟩ := hc j hj
  have hne : b ≠ R := z.ne x1 (hn _ (List.getElem_mem hj))
  exact ⟨(h.cell b _ hne).trans x0, (h.cell b _ hne).trans x1⟩
abbrev zero42 : Obj := .cells #[.slice none 0 0, .slice none 0 0, .int .i64 0, .int .i64 0, .slice none 0 0, .slice none 0 0, .bool false] 36
abbrev zero40 : Obj := .cells #[.slice none 0 0, .slice none 0 0, .bool false] 28
theorem zero42_zero {W : World} {R : Nat} (h : W.heap[R]? = some zero42) : Zero W R := by
  intro off n hc
  rw [cell_of_row W _ _ _ _ _ h] at hc
  match off, hc with
  | 0, hc => cases hc
  | 1, hc => cases hc
  | 2, hc => cases hc; rfl
  | 3, hc => cases hc; rfl
  | 4, hc => cases hc
  | 5, hc => cases hc
  | 6, hc => cases hc
  | k + 7, hc => simp at hc
theorem shelf_not0 : ∀ x ∈ shelfL, x.id ≠ 0 ∧ ∀ i ∈ x.links, i ≠ 0 := by decide +kernel
theorem names_not0 : ∀ x ∈ namesL, x.id ≠ 0 := by
  intro x hx
  simp only [namesL, List.mem_cons, List.not_mem_nil, or_false] at hx
  rcases hx with rfl | rfl <;> decide
end

section
open Go.RowKit
set_option maxRecDepth 100000
end

section
open Go.RowKit
end
end Go.Proofs.YtehmlpkapjdhkaaGreatDoor
