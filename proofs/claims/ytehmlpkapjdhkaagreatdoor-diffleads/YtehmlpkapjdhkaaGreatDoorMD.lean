import Derived.Test.YtehmlpkapjdhkaaGreatDoorMA
import Derived.Lib.Overlaps
import Derived.Lib.AppendZerosOnto
import Derived.Laws.CopyRow
import Derived.OrdersHeld
import Derived.Laws.OwnMore
namespace Go.Proofs.YtehmlpkapjdhkaaGreatDoor
section
open Go.RowKit

/-- an object, as data. -/
structure Ob where
  id : Int
  kind : Int
  links : List Int
  text : ByteArray

/-- an object's value. -/
abbrev Ob.val (x : Ob) (sa : Option Addr) (sc : Nat) : Value := .agg #[.int .i64 x.id, .int .i64 x.kind, .slice sa x.links.length sc, .string x.text]

/-- an object lies at a place. -/
def ObAt (w : World) (b o : Nat) (x : Ob) : Prop :=
  ∃ sa sc, w.cell? ⟨b, o, none⟩ = some (.int .i64 x.id) ∧ w.cell? ⟨b, o + 1, none⟩ = some (.int .i64 x.kind) ∧ w.cell? ⟨b, o + 2, none⟩ = some (.slice sa x.links.length sc) ∧ w.cell? ⟨b, o + 3, none⟩ = some (.string x.text) ∧ Holds w sa x.links ∧ x.links.length ≤ 9223372036854775807

/-- a slice of objects reads as a list. -/
def HoldsS (w : World) (a : Option Addr) (l : List Ob) : Prop :=
  ∀ i, i < l.length → ∃ b off, a = some ⟨b, off, none⟩ ∧ b < w.heap.size ∧ ∀ i (h : i < l.length), ObAt w b (off + i * 4) l[i]

theorem ObAt.below {w w' : World} {b o : Nat} {x : Ob} (h : ObAt w b o x) (hb : Below w.heap.size w w') (hlt : b < w.heap.size) : ObAt w' b o x := by
  obtain ⟨sa, sc, h0, h1, h2, h3, h4, h5⟩ := h
  exact ⟨sa, sc, (hb.cell (p := ⟨b, o, none⟩) hlt).trans h0, (hb.cell (p := ⟨b, o + 1, none⟩) hlt).trans h1, (hb.cell (p := ⟨b, o + 2, none⟩) hlt).trans h2, (hb.cell (p := ⟨b, o + 3, none⟩) hlt).trans h3, h4.below hb, h5⟩

theorem HoldsS.below {w w' : World} {a : Option Addr} {l : List Ob} (h : HoldsS w a l) (hb : Below w.heap.size w w') : HoldsS w' a l := by
  intro i hi
  obtain ⟨b, off, e, hlt, hc⟩ := h i hi
  exact ⟨b, off, e, Nat.lt_of_lt_of_le hlt hb.size, fun j hj => (hc j hj).below hb hlt⟩

set_option maxHeartbeats 400000 in
theorem place1_any (x : Ob) (sa : Option Addr) (sc : Nat) (id : Int) (p : Nat) (w : World) (hp : w.cell? ⟨p, 0, none⟩ = some (.int .i64 id)) (hlt : p < w.heap.size) :
    Calls Tryz.prog 140 #[x.val sa sc, .pointer (some ⟨p, 0, none⟩)] w fun e w' => e = .returned (.bool (x.id == id)) ∧ Below w.heap.size w w' := by
  go_enter Tryz.func140, Tryz.ntmps140
  go_wp2
  go_ret
  exact ⟨rfl, below_alloc _ _⟩

/-- the place of an id, or -1. -/
def placeI (l : List Ob) (id : Int) : Int := match l.findIdx? (fun x => x.id == id) with | some i => (i : Int) | none => -1

theorem findIdx_hit {l : List Ob} {id : Int} {k : Nat} (hk : k < l.length) (hno : ∀ j (h : j < l.length), j < k → (l[j].id == id) = false) (h : (l[k].id == id) = true) : placeI l id = k := by
  have : l.findIdx? (fun x => x.id == id) = some k := by
    rw [List.findIdx?_eq_some_iff_getElem]
    exact ⟨hk, h, fun j hj => by simpa using hno j (by omega) hj⟩
  simp [placeI, this]
theorem findIdx_miss {l : List Ob} {id : Int} (hno : ∀ j (h : j < l.length), (l[j].id == id) = false) : placeI l id = -1 := by
  have : l.findIdx? (fun x => x.id == id) = none := by
    rw [List.findIdx?_eq_none_iff]
    intro x hx
    obtain ⟨j, hj, rfl⟩ := List.getElem_of_mem hx
    exact hno j hj
  simp [placeI, this]

set_option maxHeartbeats 400000 in
theorem indexFunc_any (a : Option Addr) (c : Nat) (l : List Ob) (id : Int) (p : Nat) (w : World) (h : HoldsS w a l) (hl : l.length ≤ 9223372036854775807) (hp : w.cell? ⟨p, 0, none⟩ = some (.int .i64 id)) (hlt : p < w.heap.size) :
    Calls Tryz.prog 139 #[.slice a l.length c, .func (.func 140) #[] #[.pointer (some ⟨p, 0, none⟩)]] w fun e w' => e = .returned (.int .i64 (placeI l id)) ∧ Below w.heap.size w w' := by
  go_enter Tryz.func139, Tryz.ntmps139
  go_wp2
  go_loopw [8] (fun i wr => ∃ k : Nat, i = .int .i64 k ∧ k ≤ l.length ∧ Below w.heap.size w wr ∧ Hid (∀ j (hj : j < l.length), j < k → (l[j].id == id) = false)) (fun i _ => l.length - (intOf i).toNat)
  case atStart => exact ⟨0, rfl, Nat.zero_le _, Below.refl _ _, fun j _ h => absurd h (Nat.not_lt_zero j)⟩
  case round =>
    obtain ⟨k, rfl, hk, hB, H⟩ := hrel
    by_cases hkl : k < l.length
    · obtain ⟨b, off, rfl, hb, hc⟩ := (h.below hB) k hkl
      obtain ⟨sa, sc, x0, x1, x2, x3, x4, x5⟩ := hc k hkl
      have hpr : wr.cell? ⟨p, 0, none⟩ = some (.int .i64 id) := (hB.cell (p := ⟨p, 0, none⟩) hlt).trans hp
      clear hc
      go_wp2_with fail
      refine (place1_any l[k] sa sc id p _ hpr (Nat.lt_of_lt_of_le hlt hB.size)).mono ?_
      rintro e w1 ⟨rfl, hb1⟩
      have hB1 := hB.trans (hb1.mono hB.size)
      clear hb1 x0 x1 x2 x3 x4 hpr
      by_cases hq : (l[k].id == id) = true
      · have HR : Hid (placeI l id = k) := findIdx_hit hkl H.out hq
        rw [hq]
        clear hq
        go_wp2
        go_ret
        exact ⟨ret_int HR.out.symm, hB1⟩
      · have hq' : (l[k].id == id) = false := by simpa using hq
        have HN : Hid (∀ j (hj : j < l.length), j < k + 1 → (l[j].id == id) = false) := fun j hj hjk => by
          rcases Nat.lt_or_ge j k with h1 | h1
          · exact H.out j hj h1
          · have : j = k := by omega
            subst this
            exact hq'
        rw [hq']
        clear hq hq'
        go_wp2
        go_roundw
        case rel => exact ⟨k + 1, by go_num, by omega, hB1, HN⟩
        case measure => simp [intOf]; omega
    · have HR : Hid (placeI l id = -1) := findIdx_miss (fun j hj => H.out j hj (by omega))
      go_wp2
      go_ret
      exact ⟨ret_int HR.out.symm, hB⟩

set_option maxHeartbeats 400000 in
theorem place_any (a : Option Addr) (c : Nat) (l : List Ob) (id : Int) (w : World) (h : HoldsS w a l) (hl : l.length ≤ 9223372036854775807) :
    Calls Tryz.prog 81 #[.slice a l.length c, .int .i64 id] w fun e w' => e = .returned (.int .i64 (placeI l id)) ∧ Below w.heap.size w w' := by
  have hmf : ∀ (fn : Fn) (first cap : Array Value) (w : World), (Instr.makeFunc fn first cap).run Tryz.prog w = .ok (.func fn first cap) w := fun _ _ _ _ => rfl
  have hp : (w.alloc (.cells #[.int .i64 id] 3)).cell? ⟨w.heap.size, 0, none⟩ = some (.int .i64 id) := by rw [World.cell?_alloc_at _ _ _ _ rfl]; rfl
  go_enter Tryz.func81, Tryz.ntmps81
  go_wp2_with fail
  refine (indexFunc_any a c l id w.heap.size _ (h.below (below_alloc _ _)) hl hp (by simp)).mono ?_
  rintro e w1 ⟨rfl, hb⟩
  have hB := (below_alloc _ _).trans (hb.mono (by simp))
  go_wp2
  go_ret
  exact ⟨rfl, hB⟩

/-- may link i of an object of a kind be to one of kind to? -/
def mayB (kind : Int) (i : Int) (to : Int) : Bool :=
  if kind = 2 then (to == 1 || to == 2) else if kind = 3 ∧ i = 0 then to == 2 else if kind = 3 then to == 3 else false

set_option maxHeartbeats 400000 in
theorem mayLink_any (kind i to : Int) (w : World) :
    Calls Tryz.prog 192 #[.int .i64 kind, .int .i64 i, .int .i64 to] w fun e w' => e = .returned (.bool (mayB kind i to)) ∧ w' = w := by
  go_enter Tryz.func192, Tryz.ntmps192
  go_wp2
  all_goals go_ret
  all_goals refine ⟨ret_bool ?_, rfl⟩
  all_goals simp_all [mayB]
end

section
open Go.RowKit

/-- the kind of what stands at a place. -/
def kindAt (l : List Ob) (x : Int) : Int := match l[(placeI l x).toNat]? with | some o => o.kind | none => 0

def linkS (l : List Ob) (kind : Int) : Nat → List Int → Int
  | _, [] => 0
  | i, x :: xs => if placeI l x < 0 then 5 else if mayB kind i (kindAt l x) = false then 7 else linkS l kind (i + 1) xs

theorem placeI_cases (l : List Ob) (x : Int) : placeI l x = -1 ∨ ∃ i : Nat, placeI l x = i ∧ i < l.length := by
  unfold placeI
  cases h : l.findIdx? (fun o => o.id == x) with
  | none => exact Or.inl rfl
  | some i =>
    right
    rw [List.findIdx?_eq_some_iff_getElem] at h
    obtain ⟨hi, _⟩ := h
    exact ⟨i, rfl, hi⟩

theorem ls_none {l : List Ob} {kind : Int} {L : List Int} {k : Nat} {r : Int} (hlt : k < L.length) (H : r = linkS l kind k (L.drop k)) (h : placeI l L[k] < 0) : r = 5 := by
  rw [H, drop_at hlt, linkS, if_pos h]
theorem ls_kind {l : List Ob} {kind : Int} {L : List Int} {k : Nat} {r : Int} (hlt : k < L.length) (H : r = linkS l kind k (L.drop k)) (h : ¬ placeI l L[k] < 0) (h2 : mayB kind k (kindAt l L[k]) = false) : r = 7 := by
  rw [H, drop_at hlt, linkS, if_neg h, if_pos h2]
theorem ls_next {l : List Ob} {kind : Int} {L : List Int} {k : Nat} {r : Int} (hlt : k < L.length) (H : r = linkS l kind k (L.drop k)) (h : ¬ placeI l L[k] < 0) (h2 : mayB kind k (kindAt l L[k]) = true) : r = linkS l kind (k + 1) (L.drop (k + 1)) := by
  rw [H, drop_at hlt, linkS, if_neg h, if_neg (by simp [h2])]
theorem ls_end {l : List Ob} {kind : Int} {L : List Int} {k : Nat} {r : Int} (hlt : ¬ k < L.length) (H : r = linkS l kind k (L.drop k)) : r = 0 := by
  rw [H, List.drop_of_length_le (by omega)]; rfl

set_option maxHeartbeats 800000 in
theorem checkLinksS_any (a : Option Addr) (c : Nat) (l : List Ob) (x : Ob) (sa : Option Addr) (sc : Nat) (w : World) (h : HoldsS w a l) (hl : l.length ≤ 9223372036854775807) (hx : Holds w sa x.links) (hxl : x.links.length ≤ 9223372036854775807) :
    Calls Tryz.prog 138 #[.slice a l.length c, x.val sa sc] w fun e w' => e = .returned (.int .i64 (linkS l x.kind 0 x.links)) ∧ Below w.heap.size w w' := by
  have C := Cells4.new w (.int .i64 x.id) (.int .i64 x.kind) (.slice sa x.links.length sc) (.string x.text) 58
  have hB0 := below_alloc w (.cells #[.int .i64 x.id, .int .i64 x.kind, .slice sa x.links.length sc, .string x.text] 58)
  go_enter Tryz.func138, Tryz.ntmps138
  go_wp2
  generalize w.alloc (.cells #[.int .i64 x.id, .int .i64 x.kind, .slice sa x.links.length sc, .string x.text] 58) = W at *
  go_loopw [11] (fun i wr => ∃ k : Nat, i = .int .i64 k ∧ k ≤ x.links.length ∧ Below W.heap.size W wr ∧ Hid (linkS l x.kind 0 x.links = linkS l x.kind k (x.links.drop k))) (fun i _ => x.links.length - (intOf i).toNat)
  case atStart => exact ⟨0, rfl, Nat.zero_le _, Below.refl _ _, rfl⟩
  case round =>
    obtain ⟨k, rfl, hk, hB, H⟩ := hrel
    have hBw := hB0.trans (hB.mono hB0.size)
    by_cases hlt : k < x.links.length
    · obtain ⟨b1, o1, rfl, hb1, hc1⟩ := (hx.below hBw) k hlt
      have hk1 : wr.cell? ⟨b1, o1 + k, none⟩ = some (.int .i64 x.links[k]) := by have := hc1 k hlt; simpa [hlt] using this
      clear hc1
      go_wp2_with fail
      refine (place_any a c l x.links[k] _ (h.below hBw) hl).mono ?_
      rintro e w1 ⟨rfl, hb⟩
      have hB1 := hB.trans (hb.mono hB.size)
      have hBw1 := hBw.trans (hb.mono hBw.size)
      have q1 : w1.cell? ⟨w.heap.size, 1, none⟩ = some (.int .i64 x.kind) := (hB1.cell (p := ⟨w.heap.size, 1, none⟩) C.lt).trans C.c1
      clear hb hk1 hb1
      rcases placeI_cases l x.links[k] with hp | ⟨i, hp, hi⟩
      · have HR : Hid (linkS l x.kind 0 x.links = 5) := ls_none hlt H.out (by omega)
        rw [hp]
        clear hp
        go_wp2
        go_ret
        exact ⟨ret_int HR.out.symm, hBw1⟩
      · have HP : Hid (placeI l x.links[k] = i) := hp
        obtain ⟨b2, o2, rfl, hb2, hc2⟩ := (h.below hBw1) i hi
        obtain ⟨ta, tc, y0, y1, y2, y3, y4, y5⟩ := hc2 i hi
        have hka : kindAt l x.links[k] = l[i].kind := by unfold kindAt; rw [hp]; simp [hi]
        have HK : Hid (kindAt l x.links[k] = l[i].kind) := hka
        have hi' : (i : Int) < (l.length : Int) := by omega
        rw [hp]
        clear hp hc2 hka
        by_cases hm : mayB x.kind k l[i].kind = true
        · have HN : Hid (linkS l x.kind 0 x.links = linkS l x.kind (k + 1) (x.links.drop (k + 1))) := ls_next hlt H.out (by have := HP.out; omega) (by rw [HK.out]; exact hm)
          go_wp2
          go_quiet ((go_at_call 192; exact Calls.quiet_of_same (mayLink_any _ _ _ _)))
          go_wp2
          go_roundw
          case rel => exact ⟨k + 1, by go_num, by omega, below_drewN hB1 _, HN⟩
          case measure => simp [intOf]; omega
        · have hm' : mayB x.kind k l[i].kind = false := by simpa using hm
          have HR : Hid (linkS l x.kind 0 x.links = 7) := ls_kind hlt H.out (by have := HP.out; omega) (by rw [HK.out]; exact hm')
          clear hm
          go_wp2
          go_quiet ((go_at_call 192; exact Calls.quiet_of_same (mayLink_any _ _ _ _)))
          go_wp2
          go_ret
          exact ⟨ret_int HR.out.symm, below_drewN hBw1 _⟩
    · have HR : Hid (linkS l x.kind 0 x.links = 0) := ls_end hlt H.out
      go_wp2
      go_ret
      exact ⟨ret_int HR.out.symm, hBw⟩
end

section
open Go.RowKit

abbrev Ob.err (x : Ob) : Int := checkE x.id x.kind x.links x.text.size

def chk1 (l : List Ob) (last : Int) (x : Ob) : Int := if x.err ≠ 0 then x.err else if x.id ≤ last then 4 else linkS l x.kind 0 x.links
/-- what 'last' is behind an object. -/
def newLast (x : Ob) (last : Int) : Int := if x.err = 0 ∧ last < x.id then x.id else last
def eachC (l : List Ob) : Int → List Ob → Int
  | _, [] => 0
  | last, x :: xs => if chk1 l last x ≠ 0 then chk1 l last x else eachC l x.id xs
/-- what Check of a store answers. -/
def checkS (l : List Ob) : Int := if 40 < l.length then 2 else eachC l 0 l

theorem Stays.cell {p : Nat} {w w' : World} (h : Stays p none w w') {q o : Nat} (hq : q < w.heap.size) (hne : q ≠ p) : w'.cell? ⟨q, o, none⟩ = w.cell? ⟨q, o, none⟩ :=
  World.cell?_of_block (a := ⟨q, o, none⟩) (h.block q hq hne (by simp))
theorem Stays.of_below {p : Nat} {w w' : World} (h : Below w.heap.size w w') : Stays p none w w' := ⟨h.os, h.tape, h.output, h.size, fun k hk _ _ => h.block k hk⟩

set_option maxHeartbeats 800000 in
theorem check1_any (a : Option Addr) (c : Nat) (l : List Ob) (x : Ob) (sa : Option Addr) (sc : Nat) (last : Int) (p q : Nat) (w0 w : World)
    (h : HoldsS w0 a l) (hl : l.length ≤ 9223372036854775807) (hx : Holds w0 sa x.links) (hxl : x.links.length ≤ 9223372036854775807) (hB : Below w0.heap.size w0 w)
    (hp0 : w0.heap.size ≤ p) (hp : p < w.heap.size) (hpc : w.cell? ⟨p, 0, none⟩ = some (.int .i64 last)) (hpf : w.frozen? ⟨p, 0, none⟩ = false)
    (hq : q < w.heap.size) (hqp : q ≠ p) (hqc : w.cell? ⟨q, 0, none⟩ = some (.slice a l.length c)) :
    Calls Tryz.prog 137 #[x.val sa sc, .pointer (some ⟨p, 0, none⟩), .pointer (some ⟨q, 0, none⟩)] w fun e w' => e = .returned (.int .i64 (chk1 l last x)) ∧ Stays p none w w' ∧ w'.frozen? ⟨p, 0, none⟩ = false ∧
      w'.cell? ⟨p, 0, none⟩ = some (.int .i64 (newLast x last)) := by
  have C := Cells4.new w (.int .i64 x.id) (.int .i64 x.kind) (.slice sa x.links.length sc) (.string x.text) 58
  have hB0 := below_alloc w (.cells #[.int .i64 x.id, .int .i64 x.kind, .slice sa x.links.length sc, .string x.text] 58)
  go_enter Tryz.func137, Tryz.ntmps137
  go_wp2_with fail
  generalize w.alloc (.cells #[.int .i64 x.id, .int .i64 x.kind, .slice sa x.links.length sc, .string x.text] 58) = W at *
  refine (check_any x.id x.kind sa sc x.links x.text _ (hx.below (hB.trans (hB0.mono hB.size))) hxl).mono ?_
  rintro e w1 ⟨rfl, hb1⟩
  have hS1 : Stays p none w w1 := Stays.of_below (hB0.trans (hb1.mono hB0.size))
  have hp1 : w1.cell? ⟨p, 0, none⟩ = some (.int .i64 last) := (hb1.cell (p := ⟨p, 0, none⟩) (Nat.lt_of_lt_of_le hp hB0.size)).trans ((hB0.cell (p := ⟨p, 0, none⟩) hp).trans hpc)
  have hf1 : w1.frozen? ⟨p, 0, none⟩ = false := (hb1.frozen (p := ⟨p, 0, none⟩) (Nat.lt_of_lt_of_le hp hB0.size)).trans ((hB0.frozen (p := ⟨p, 0, none⟩) hp).trans hpf)
  have hq1 : w1.cell? ⟨q, 0, none⟩ = some (.slice a l.length c) := (hS1.cell hq hqp).trans hqc
  have C1 := C.below hb1 C.lt
  have hBw1 : Below w0.heap.size w0 w1 := hB.trans ((hB0.trans (hb1.mono hB0.size)).mono hB.size)
  have hpl1 : p < w1.heap.size := Nat.lt_of_lt_of_le hp hS1.size
  clear hb1 hB0 C
  by_cases he : x.err = 0
  · rw [show checkE x.id x.kind x.links x.text.size = 0 from he]
    obtain ⟨c0, c1, c2, c3, _, _, _, _, cl⟩ := C1
    have HE : Hid (x.err = 0) := he
    clear he
    by_cases hle : x.id ≤ last
    · have HR : Hid (chk1 l last x = 4 ∧ (newLast x last) = last) := ⟨by rw [chk1, if_neg (by rw [HE.out]; simp), if_pos hle], by rw [newLast, if_neg (by omega)]⟩
      go_wp2
      go_ret
      exact ⟨ret_int HR.out.1.symm, hS1, hf1, by rw [HR.out.2]; exact hp1⟩
    · have hlt : last < x.id := by omega
      have HR : Hid (chk1 l last x = linkS l x.kind 0 x.links ∧ (newLast x last) = x.id) := ⟨by rw [chk1, if_neg (by rw [HE.out]; simp), if_neg hle], by rw [newLast, if_pos ⟨HE.out, hlt⟩]⟩
      have hS2 := hS1.setCell 0 (.int .i64 x.id)
      have hB2 : Below w0.heap.size w0 (w1.setCell ⟨p, 0, none⟩ (.int .i64 x.id)) := hBw1.setCell (p := ⟨p, 0, none⟩) hp0 _
      have hc2 : (w1.setCell ⟨p, 0, none⟩ (.int .i64 x.id)).cell? ⟨p, 0, none⟩ = some (.int .i64 x.id) := World.cell?_setCell_same _ _ _ hp1
      have hf2 : (w1.setCell ⟨p, 0, none⟩ (.int .i64 x.id)).frozen? ⟨p, 0, none⟩ = false := (World.frozen?_setCell _ _ _ _).trans hf1
      have hne1 : ¬ w.heap.size = p := by omega
      have hne2 : ¬ p = w.heap.size := by omega
      have hne3 : ¬ q = p := hqp
      have hne4 : ¬ p = q := fun e => hqp e.symm
      go_wp2_with fail
      refine (checkLinksS_any a c l x sa sc _ (h.below hB2) hl (hx.below hB2) hxl).mono ?_
      rintro e w2 ⟨rfl, hb2⟩
      have hpl2 : p < (w1.setCell ⟨p, 0, none⟩ (.int .i64 x.id)).heap.size := by simpa [World.setCell] using hpl1
      have hS3 := hS2.trans (Stays.of_below hb2)
      have hc3 := (hb2.cell (p := ⟨p, 0, none⟩) hpl2).trans hc2
      have hf3 := (hb2.frozen (p := ⟨p, 0, none⟩) hpl2).trans hf2
      clear hb2 hc2 hf2 hS2 hB2 hpl2 hpc hpf hp1 hf1
      go_wp2
      go_ret
      exact ⟨ret_int HR.out.1.symm, hS3, hf3, by rw [HR.out.2]; exact hc3⟩
  · have he' : (checkE x.id x.kind x.links x.text.size != 0) = true := by simpa using he
    have HR : Hid (chk1 l last x = x.err ∧ (newLast x last) = last) := ⟨by rw [chk1, if_pos he], by rw [newLast, if_neg (fun e => he e.1)]⟩
    go_wp2
    go_ret
    exact ⟨ret_int HR.out.1.symm, hS1, hf1, by rw [HR.out.2]; exact hp1⟩

theorem ec_bad {l : List Ob} {m : List Ob} {k : Nat} {last r : Int} (hk : k < m.length) (H : r = eachC l last (m.drop k)) (h : chk1 l last m[k] ≠ 0) : r = chk1 l last m[k] := by
  rw [H, List.drop_eq_getElem_cons hk, eachC, if_pos h]
theorem chk1_zero {l : List Ob} {last : Int} {x : Ob} (h : chk1 l last x = 0) : x.err = 0 ∧ last < x.id ∧ linkS l x.kind 0 x.links = 0 := by
  unfold chk1 at h
  split at h
  · omega
  · split at h
    · omega
    · exact ⟨by omega, by omega, h⟩
theorem ec_next {l : List Ob} {m : List Ob} {k : Nat} {last r : Int} (hk : k < m.length) (H : r = eachC l last (m.drop k)) (h : chk1 l last m[k] = 0) : r = eachC l (newLast m[k] last) (m.drop (k + 1)) := by
  obtain ⟨h1, h2, _⟩ := chk1_zero h
  rw [H, List.drop_eq_getElem_cons hk, eachC, if_neg (by omega), newLast, if_pos ⟨h1, h2⟩]
theorem ec_end {l : List Ob} {m : List Ob} {k : Nat} {last r : Int} (hk : ¬ k < m.length) (H : r = eachC l last (m.drop k)) : r = 0 := by
  rw [H, List.drop_of_length_le (by omega)]; rfl

set_option maxHeartbeats 800000 in
theorem each_check (a : Option Addr) (c : Nat) (l : List Ob) (p q : Nat) (w0 w : World)
    (h : HoldsS w0 a l) (hl : l.length ≤ 9223372036854775807) (hB : Below w0.heap.size w0 w)
    (hp0 : w0.heap.size ≤ p) (hp : p < w.heap.size) (hpc : w.cell? ⟨p, 0, none⟩ = some (.int .i64 0)) (hpf : w.frozen? ⟨p, 0, none⟩ = false)
    (hq : q < w.heap.size) (hqp : q ≠ p) (hqc : w.cell? ⟨q, 0, none⟩ = some (.slice a l.length c)) :
    Calls Tryz.prog 133 #[.slice a l.length c, .func (.func 137) #[] #[.pointer (some ⟨p, 0, none⟩), .pointer (some ⟨q, 0, none⟩)]] w fun e w' => e = .returned (.int .i64 (eachC l 0 l)) ∧ Below w0.heap.size w0 w' := by
  go_enter Tryz.func133, Tryz.ntmps133
  go_wp2
  go_loopw [10] (fun i wr => ∃ (k : Nat) (last : Int), i = .int .i64 k ∧ k ≤ l.length ∧ Stays p none w wr ∧ wr.cell? ⟨p, 0, none⟩ = some (.int .i64 last) ∧ wr.frozen? ⟨p, 0, none⟩ = false ∧ Hid (eachC l 0 l = eachC l last (l.drop k))) (fun i _ => l.length - (intOf i).toNat)
  case atStart => exact ⟨0, 0, rfl, Nat.zero_le _, Stays.refl _ _ _, hpc, hpf, rfl⟩
  case round =>
    obtain ⟨k, last, rfl, hk, hS, hcl, hfl, H⟩ := hrel
    have hBr : Below w0.heap.size w0 wr := hB.trans (hS.below hB.size hp0 (by simp))
    have hqr : wr.cell? ⟨q, 0, none⟩ = some (.slice a l.length c) := (hS.cell hq hqp).trans hqc
    by_cases hlt : k < l.length
    · obtain ⟨b, off, rfl, hb, hc⟩ := h k hlt
      have hO := hc k hlt
      obtain ⟨sa, sc, x0, x1, x2, x3, x4, x5⟩ := hO
      have y0 := (hBr.cell (p := ⟨b, off + k * 4, none⟩) hb).trans x0
      have y1 := (hBr.cell (p := ⟨b, off + k * 4 + 1, none⟩) hb).trans x1
      have y2 := (hBr.cell (p := ⟨b, off + k * 4 + 2, none⟩) hb).trans x2
      have y3 := (hBr.cell (p := ⟨b, off + k * 4 + 3, none⟩) hb).trans x3
      clear hc x0 x1 x2 x3
      have hA := below_alloc wr (.cells #[.int .i64 l[k].id, .int .i64 l[k].kind, .slice sa l[k].links.length sc, .string l[k].text] 58)
      go_wp2_with fail
      refine (check1_any _ c l l[k] sa sc last p q w0 _ h hl x4 x5 (hBr.trans (hA.mono hBr.size)) hp0 ?k1 ?k2 ?k3 ?k4 hqp ?k5).mono ?_
      case k1 => exact Nat.lt_of_lt_of_le hp (Nat.le_trans hS.size hA.size)
      case k2 => exact (hA.cell (p := ⟨p, 0, none⟩) (Nat.lt_of_lt_of_le hp hS.size)).trans hcl
      case k3 => exact (hA.frozen (p := ⟨p, 0, none⟩) (Nat.lt_of_lt_of_le hp hS.size)).trans hfl
      case k4 => exact Nat.lt_of_lt_of_le hq (Nat.le_trans hS.size hA.size)
      case k5 => exact (hA.cell (p := ⟨q, 0, none⟩) (Nat.lt_of_lt_of_le hq hS.size)).trans hqr
      rintro e w1 ⟨rfl, hS1, hf1, hc1⟩
      have hS2 := (hS.trans (Stays.of_below hA)).trans hS1
      clear hS1 hA y0 y1 y2 y3 hqr hcl hfl
      by_cases hz : chk1 l last l[k] = 0
      · have HN : Hid (eachC l 0 l = eachC l (newLast l[k] last) (l.drop (k + 1))) := ec_next hlt H.out hz
        rw [hz]
        clear hz
        go_wp2
        go_roundw
        case rel => exact ⟨k + 1, _, by go_num, by omega, hS2, hc1, hf1, HN⟩
        case measure => simp [intOf]; omega
      · have HR : Hid (eachC l 0 l = chk1 l last l[k]) := ec_bad hlt H.out hz
        have hz' : (chk1 l last l[k] != 0) = true := by simpa using hz
        clear hz
        go_wp2
        go_ret
        exact ⟨ret_int HR.out.symm, hB.trans (hS2.below hB.size hp0 (by simp))⟩
    · have HR : Hid (eachC l 0 l = 0) := ec_end hlt H.out
      go_wp2
      go_ret
      exact ⟨ret_int HR.out.symm, hBr⟩

set_option maxHeartbeats 800000 in
theorem checkS_any (a : Option Addr) (c : Nat) (l : List Ob) (w : World) (h : HoldsS w a l) (hl : l.length ≤ 9223372036854775807) :
    Calls Tryz.prog 78 #[.slice a l.length c] w fun e w' => e = .returned (.int .i64 (checkS l)) ∧ Below w.heap.size w w' := by
  have hmf : ∀ (fn : Fn) (first cap : Array Value) (w : World), (Instr.makeFunc fn first cap).run Tryz.prog w = .ok (.func fn first cap) w := fun _ _ _ _ => rfl
  have hB2 := below_alloc2 w (.cells #[.slice a l.length c] 25) (.cells #[.int .i64 0] 3)
  by_cases hm : (40 : Int) < (l.length : Int)
  · go_enter Tryz.func78, Tryz.ntmps78
    go_wp2
    go_ret
    exact ⟨ret_int (by rw [checkS, if_pos (by omega)]), below_alloc _ _⟩
  · have HR : Hid (checkS l = eachC l 0 l) := by unfold Hid; rw [checkS, if_neg (by omega)]
    go_enter Tryz.func78, Tryz.ntmps78
    go_wp2_with fail
    refine (each_check a c l (w.heap.size + 1) w.heap.size w _ h hl hB2 (Nat.le_succ _) ?k1 ?k2 ?k3 ?k4 (by omega) ?k5).mono ?_
    case k1 => simp
    case k2 => simp [go_sem]
    case k3 => simp [go_sem]
    case k4 => simp; omega
    case k5 => simp [go_sem]
    rintro e w1 ⟨rfl, hb⟩
    go_wp2
    go_ret
    exact ⟨ret_int HR.out.symm, hb⟩
end

section
open Go.RowKit

theorem wpList_append_ints {ops : Array Oper} {rest : List Oper} {o : Oper} {a : Act} {Q : Exit → Act → World → Prop} (w : World) (hgd : o.guard = none) (s x : Operand)
    (ho : o.op = .call { callee := .builtin .append, args := #[s, x], argTypes := #[45, 45] })
    (base n : Nat) (v : Value) (xs : List Int) (hs : a.eval s = v) (hown : w.ownsRow base 3 1 v n (xs.map (Value.int .i64)))
    (ad : Option Addr) (m c : Nat) (L : List Int) (hm : L.length = m) (hx : a.eval x = .slice ad m c) (hh : Holds w ad L) (hn : n + m ≤ 1000) (hbase : base ≤ w.heap.size)
    (h : ∀ g' N cap' w', N = n + m → w'.ownsRow base 3 1 (.slice g' N cap') N ((xs ++ L).map (Value.int .i64)) → w.grownBy w' v.ownBlock → wpList Tryz.prog ops Q rest (a.put o.dst (.slice g' N cap')) w') :
    wpList Tryz.prog ops Q (o :: rest) a w := by
  refine wpList_plain hgd fun K hK => ?_
  obtain ⟨g', N, cap', w', hN, hr, h1, h2⟩ := run_append_ints w o.type base n v xs hown ad m c L hm hh hn hbase
  unfold Oper.wp execOp
  simp only [ho, resolve, invoke, builtin, Sem.run_bind, Sem.run_pure, Result.andThen_ok, List.map_toArray, List.map_cons, List.map_nil, hs, hx, hr]
  exact hK _ _ (h g' N cap' w' hN h1 h2)

theorem Cells4.two (w : World) (o : Obj) (x0 x1 x2 x3 : Value) (e : Nat) : Cells4 (w.heap.size + 1) x0 x1 x2 x3 ((w.alloc o).alloc (.cells #[x0, x1, x2, x3] e)) := by
  have := Cells4.new (w.alloc o) x0 x1 x2 x3 e
  simpa using this

theorem own_cap {w : World} {base n cap : Nat} {g : Option Addr} {xs : List Value} (h : w.ownsRow base 3 1 (.slice g n cap) n xs) : n ≤ cap := by
  rcases h.2 with ⟨e, rfl⟩ | ⟨g', cap', cur, e, _, _, hn, _⟩
  · omega
  · cases e; exact hn

set_option maxHeartbeats 400000 in
theorem copyOf_any (x : Ob) (sa : Option Addr) (sc : Nat) (w : World) (hx : Holds w sa x.links) (hl : x.links.length ≤ 1000) :
    Calls Tryz.prog 82 #[x.val sa sc] w fun e w' => ∃ ta tc, e = .returned (x.val ta tc) ∧ Holds w' ta x.links ∧ Below w.heap.size w w' ∧ (∀ b off, ta = some ⟨b, off, none⟩ → w.heap.size ≤ b) ∧ x.links.length ≤ tc := by
  have hB2 := below_alloc2 w (.cells #[.int .i64 x.id, .int .i64 x.kind, .slice sa x.links.length sc, .string x.text] 58) (.cells #[.int .i64 0, .int .i64 0, .slice none 0 0, .string { data := #[] }] 58)
  have hx2 := hx.below hB2
  have C1 := (Cells4.new w (.int .i64 x.id) (.int .i64 x.kind) (.slice sa x.links.length sc) (.string x.text) 58).below (below_alloc _ (.cells #[.int .i64 0, .int .i64 0, .slice none 0 0, .string { data := #[] }] 58)) (by simp)
  have C2 := Cells4.two w (.cells #[.int .i64 x.id, .int .i64 x.kind, .slice sa x.links.length sc, .string x.text] 58) (.int .i64 0) (.int .i64 0) (.slice none 0 0) (.string { data := #[] }) 58
  have hsz : w.heap.size + 2 ≤ ((w.alloc (.cells #[.int .i64 x.id, .int .i64 x.kind, .slice sa x.links.length sc, .string x.text] 58)).alloc (.cells #[.int .i64 0, .int .i64 0, .slice none 0 0, .string { data := #[] }] 58)).heap.size := by simp
  go_enter Tryz.func82, Tryz.ntmps82
  go_wp2_with (at_builtin; refine wpList_append_ints _ rfl (.const (.slice none 0 0)) (.tmp 4) rfl (w.heap.size + 2) 0 (.slice none 0 0) [] rfl (World.ownsRow_nil _ _ _ _) sa x.links.length sc x.links rfl rfl hx2 (by omega) hsz ?_)
  intro g N cap w1 hN ho hg
  generalize (w.alloc (.cells #[.int .i64 x.id, .int .i64 x.kind, .slice sa x.links.length sc, .string x.text] 58)).alloc (.cells #[.int .i64 0, .int .i64 0, .slice none 0 0, .string { data := #[] }] 58) = W at *
  have hN' : N = x.links.length := by omega
  subst hN'
  have hBW : Below W.heap.size W w1 := ⟨hg.os, hg.tape, hg.output, hg.size, fun k hk => hg.block k hk (by simp [Value.ownBlock])⟩
  have D1 := C1.below hBW C1.lt
  have D2 := C2.below hBW C2.lt
  have hB1 := hB2.trans (hBW.mono hB2.size)
  have hcap := own_cap ho
  obtain ⟨g', cap', e', hh, hab⟩ := own_shape (L := [] ++ x.links) ho (by simp)
  cases e'
  rw [List.nil_append] at hh
  obtain ⟨c0, c1, c2, c3, f0, f1, f2, f3, cl⟩ := D1
  obtain ⟨d0, d1, d2, d3, e0, e1, e2, e3, dl⟩ := D2
  clear ho hg hBW C1 C2 hN
  have hge : ∀ b off, g = some ⟨b, off, none⟩ → w.heap.size + 2 ≤ b := hab
  have hH := holds_set4 (B := w.heap.size + 1) (x0 := .int .i64 x.id) (x1 := .int .i64 x.kind) (x2 := .slice g x.links.length cap) (x3 := .string x.text) (hh.set (B := w.heap.size) (i := 2) (fun b off e => by have := hge b off e; omega) (.slice g x.links.length cap)) (fun b off e _ => by have := hge b off e; omega)
  have hBB := below_set4 (B := w.heap.size + 1) (x0 := .int .i64 x.id) (x1 := .int .i64 x.kind) (x2 := .slice g x.links.length cap) (x3 := .string x.text) (hB1.setCell (p := ⟨w.heap.size, 2, none⟩) (Nat.le_refl _) (.slice g x.links.length cap)) (Nat.le_succ _)
  have HH : Hid (_ ∧ _ ∧ ∀ b off, g = some ⟨b, off, none⟩ → w.heap.size ≤ b) := ⟨hH, hBB, fun b off e => by have := hge b off e; omega⟩
  clear hH hBB hge hab hh hB1
  go_wp2
  refine bodyPost_ret (v := x.val g cap) (by simp [results, Tryz.results82, go_sem, d0, d1, d2, d3]) rfl ?_
  exact ⟨g, cap, rfl, HH.out.1, HH.out.2.1, HH.out.2.2, hcap⟩

theorem eachC_all {l : List Ob} : ∀ (m : List Ob) (last : Int), eachC l last m = 0 → ∀ x ∈ m, x.err = 0 ∧ last < x.id ∧ linkS l x.kind 0 x.links = 0 := by
  intro m
  induction m with
  | nil => intro _ _ x hx; cases hx
  | cons y ys ih =>
    intro last h x hx
    rw [eachC] at h
    split at h
    · omega
    · rename_i h0
      have h1 := chk1_zero (Decidable.not_not.1 h0)
      rcases List.mem_cons.1 hx with rfl | hx
      · exact h1
      · have h2 := ih _ h x hx
        exact ⟨h2.1, by omega, h2.2.2⟩
theorem checkS_zero {l : List Ob} (h : checkS l = 0) : l.length ≤ 40 ∧ eachC l 0 l = 0 := by
  unfold checkS at h
  split at h
  · omega
  · exact ⟨by omega, h⟩
theorem checkS_err {l : List Ob} (h : checkS l = 0) : ∀ x ∈ l, x.err = 0 := fun x hx => (eachC_all l 0 (checkS_zero h).2 x hx).1

set_option maxHeartbeats 400000 in
theorem find_err (a : Option Addr) (c : Nat) (l : List Ob) (id : Int) (w : World) (h : HoldsS w a l) (hl : l.length ≤ 9223372036854775807) (he : checkS l ≠ 0) :
    Calls Tryz.prog 29 #[.slice a l.length c, .int .i64 id] w fun e w' => e = .returned (.tuple #[zeroO, .int .i64 (checkS l)]) ∧ Below w.heap.size w w' := by
  have he' : (checkS l != 0) = true := by simpa using he
  have C := Cells4.new w (.int .i64 0) (.int .i64 0) (.slice none 0 0) (.string { data := #[] }) 58
  have hB := below_alloc w (.cells #[.int .i64 0, .int .i64 0, .slice none 0 0, .string { data := #[] }] 58)
  go_enter Tryz.func29, Tryz.ntmps29
  go_wp2_with fail
  refine (checkS_any a c l _ (h.below hB) hl).mono ?_
  rintro e w1 ⟨rfl, hb⟩
  have C1 := C.below hb C.lt
  have hB1 := below_set4 (B := w.heap.size) (x0 := .int .i64 0) (x1 := .int .i64 0) (x2 := .slice none 0 0) (x3 := .string { data := #[] }) (hB.trans (hb.mono hB.size)) (Nat.le_refl _)
  obtain ⟨c0, c1, c2, c3, f0, f1, f2, f3, cl⟩ := C1
  clear hb C hB
  go_wp2
  refine bodyPost_ret (v := .tuple #[zeroO, .int .i64 (checkS l)]) (by simp [results, Tryz.results29, go_sem, c0, c1, c2, c3]) rfl ?_
  exact ⟨rfl, hB1⟩

set_option maxHeartbeats 400000 in
theorem find_none (a : Option Addr) (c : Nat) (l : List Ob) (id : Int) (w : World) (h : HoldsS w a l) (he : checkS l = 0) (hp : placeI l id = -1) :
    Calls Tryz.prog 29 #[.slice a l.length c, .int .i64 id] w fun e w' => e = .returned (.tuple #[zeroO, .int .i64 5]) ∧ Below w.heap.size w w' := by
  have hl : l.length ≤ 9223372036854775807 := by have := (checkS_zero he).1; omega
  have HE : Hid (checkS l = 0) := he
  have HP : Hid (placeI l id = -1) := hp
  have C := Cells4.new w (.int .i64 0) (.int .i64 0) (.slice none 0 0) (.string { data := #[] }) 58
  have hB := below_alloc w (.cells #[.int .i64 0, .int .i64 0, .slice none 0 0, .string { data := #[] }] 58)
  clear he hp
  go_enter Tryz.func29, Tryz.ntmps29
  go_wp2_with fail
  refine (checkS_any a c l _ (h.below hB) hl).mono ?_
  rintro e w1 ⟨rfl, hb⟩
  rw [HE.out]
  have C1 := C.below hb C.lt
  have hB1 := hB.trans (hb.mono hB.size)
  clear hb C hB
  go_wp2_with fail
  refine (place_any a c l id _ (h.below hB1) hl).mono ?_
  rintro e w2 ⟨rfl, hb⟩
  rw [HP.out]
  have C2 := C1.below hb C1.lt
  have hB2 := below_set4 (B := w.heap.size) (x0 := .int .i64 0) (x1 := .int .i64 0) (x2 := .slice none 0 0) (x3 := .string { data := #[] }) (hB1.trans (hb.mono hB1.size)) (Nat.le_refl _)
  obtain ⟨c0, c1, c2, c3, f0, f1, f2, f3, cl⟩ := C2
  clear hb C1 hB1
  go_wp2
  refine bodyPost_ret (v := .tuple #[zeroO, .int .i64 5]) (by simp [results, Tryz.results29, go_sem, c0, c1, c2, c3]) rfl ?_
  exact ⟨rfl, hB2⟩

set_option maxHeartbeats 400000 in
theorem find_ok (a : Option Addr) (c : Nat) (l : List Ob) (id : Int) (i : Nat) (w : World) (h : HoldsS w a l) (he : checkS l = 0) (hp : placeI l id = i) (hi : i < l.length) :
    Calls Tryz.prog 29 #[.slice a l.length c, .int .i64 id] w fun e w' => ∃ ta tc, e = .returned (.tuple #[l[i].val ta tc, .int .i64 0]) ∧ Holds w' ta l[i].links ∧ Below w.heap.size w w' := by
  have hl : l.length ≤ 9223372036854775807 := by have := (checkS_zero he).1; omega
  have hl4 : l[i].links.length ≤ 4 := (checkE_zero (checkS_err he l[i] (List.getElem_mem hi))).2.2.1
  have HE : Hid (checkS l = 0) := he
  have HP : Hid (placeI l id = i) := hp
  have C := Cells4.new w (.int .i64 0) (.int .i64 0) (.slice none 0 0) (.string { data := #[] }) 58
  have hB := below_alloc w (.cells #[.int .i64 0, .int .i64 0, .slice none 0 0, .string { data := #[] }] 58)
  clear he hp
  go_enter Tryz.func29, Tryz.ntmps29
  go_wp2_with fail
  refine (checkS_any a c l _ (h.below hB) hl).mono ?_
  rintro e w1 ⟨rfl, hb⟩
  rw [HE.out]
  have C1 := C.below hb C.lt
  have hB1 := hB.trans (hb.mono hB.size)
  clear hb C hB
  go_wp2_with fail
  refine (place_any a c l id _ (h.below hB1) hl).mono ?_
  rintro e w2 ⟨rfl, hb⟩
  rw [HP.out]
  have C2 := C1.below hb C1.lt
  have hB2 := hB1.trans (hb.mono hB1.size)
  clear hb C1 hB1
  obtain ⟨b, off, rfl, hbl, hc⟩ := (h.below hB2) i hi
  obtain ⟨sa, sc, x0, x1, x2, x3, x4, x5⟩ := hc i hi
  have hi' : (i : Int) < (l.length : Int) := by omega
  clear hc
  go_wp2_with fail
  refine (copyOf_any l[i] sa sc _ x4 (by omega)).mono ?_
  rintro e w3 ⟨ta, tc, rfl, hh, hb, hge, _⟩
  have C3 := C2.below hb C2.lt
  have cl2 := C2.lt
  have hB3 := below_set4 (B := w.heap.size) (x0 := .int .i64 l[i].id) (x1 := .int .i64 l[i].kind) (x2 := .slice ta l[i].links.length tc) (x3 := .string l[i].text) (hB2.trans (hb.mono hB2.size)) (Nat.le_refl _)
  have hH3 := holds_set4 (B := w.heap.size) (x0 := .int .i64 l[i].id) (x1 := .int .i64 l[i].kind) (x2 := .slice ta l[i].links.length tc) (x3 := .string l[i].text) hh (fun b' off' e _ => by have := hge b' off' e; omega)
  obtain ⟨c0, c1, c2, c3, f0, f1, f2, f3, cl⟩ := C3
  have HH : Hid (_ ∧ _) := ⟨hH3, hB3⟩
  clear hb C2 hB2 hB3 hH3 hh x0 x1 x2 x3 x4 hge
  go_wp2
  refine bodyPost_ret (v := .tuple #[l[i].val ta tc, .int .i64 0]) (by simp [results, Tryz.results29, go_sem, c0, c1, c2, c3]) rfl ?_
  exact ⟨ta, tc, rfl, HH.out.1, HH.out.2⟩
end

section
open Go.RowKit
end

section
open Go.RowKit

theorem Tryz.info58 : (Tryz.prog.info? 58).map (fun i => (i.zero, i.size, i.bytes)) = some (some (.agg #[.int .i64 0, .int .i64 0, .slice none 0 0, .string { data := #[] }]), 4, 56) := by kernel_rfl
end

section
open Go.RowKit
end

section
open Go.RowKit

/-- append onto a row of one's own; the new row is the old one's block or a new block. -/
theorem app_own (w : World) (base : Nat) (ty : TypeId) (v : Value) (n : Nat) (xs : List Value) (hown : w.ownsRow base 58 4 v n xs) (vb : Nat) (ys : Array Value) (hv : w.heap[vb]? = some (.cells ys 58)) (hys : ys.size = 4)
    (h2 : ∀ v ∈ ys.toList, v.oneCell' = true) (hn : n ≤ 1000) (hbase : base ≤ w.heap.size) :
    ∃ v' w', (Builtin.append_ #[25, 25] ty #[v, .slice (some ⟨vb, 0, none⟩) 1 1]).run Tryz.prog w = .ok v' w' ∧ w'.ownsRow base 58 4 v' (n + 1) (xs ++ ys.toList) ∧ w.grownBy w' v.ownBlock ∧ ∀ k, v'.ownBlock = some k → v.ownBlock = some k ∨ w.heap.size ≤ k := by
  obtain ⟨i0, hi0, hz0, hzs, hzb⟩ := info_parts Tryz.info58
  have hl : ys.toList.length = 1 * 4 := by rw [Array.length_toList, hys]
  have hnews := World.news_of_block hv
  obtain ⟨v', w', hr, q1, q2, _⟩ := run_append_own (P := Tryz.prog) w base 25 ty 58 i0 _ 4 56 Tryz.underlying25 hi0 hz0 hzs hzb rfl (by omega) v n xs hown ⟨vb, 0, none⟩ 1 1 ys.toList hl hnews h2 (by unfold maxLen; omega) (by omega) hbase
  refine ⟨v', w', hr, q1, q2, ?_⟩
  rcases hown.2 with ⟨rfl, rfl⟩ | ⟨g, cap, cur, rfl, hbg, hg, hnc, hcm, hcs, htake⟩
  · obtain ⟨v2, w2, hr2, p1, _, _⟩ := run_append_own (P := Tryz.prog) w w.heap.size 25 ty 58 i0 _ 4 56 Tryz.underlying25 hi0 hz0 hzs hzb rfl (by omega) _ 0 [] (World.ownsRow_nil _ _ _ _) ⟨vb, 0, none⟩ 1 1 ys.toList hl hnews h2 (by unfold maxLen; omega) (by omega) (Nat.le_refl _)
    rw [hr] at hr2
    cases hr2
    exact fun k hk => .inr (p1.lt k hk).1
  · by_cases hroom : n + 1 ≤ cap
    · have hr2 := run_append_room (P := Tryz.prog) w 25 ty 58 i0 Tryz.underlying25 hi0 g n cap cur hg ⟨vb, 0, none⟩ 1 1 ys.toList (by rw [hzs]; exact hl) hnews h2 hroom (by rw [hzs, hl]; omega)
      rw [hr] at hr2
      cases hr2
      exact fun k hk => .inl hk
    · have hr2 := run_append_grow (P := Tryz.prog) w 25 ty 58 i0 _ Tryz.underlying25 hi0 hz0 ⟨g, 0, none⟩ n cap xs (by rw [hzs]; exact hown.1) (hown.cells (g := g) rfl) ⟨vb, 0, none⟩ 1 1 ys.toList (by rw [hzs]; exact hl) hnews (by omega) (by omega) (by rw [hzb]; exact growslice_fits (by omega) (by omega))
      rw [hr] at hr2
      cases hr2
      exact fun k hk => .inr (by simp [Value.ownBlock] at hk; omega)
end

section
open Go.RowKit

section
variable {P : Program} {ops : Array Oper} {Q : Exit → Act → World → Prop} {md : Region.Mode} {S : World → Prop} {ex : Nat → Bool}

/-- Orders with a condition that the operations of 'ex' (a last store) need not keep. -/
def wpAnyE (P : Program) (md : Region.Mode) (ops : Array Oper) (Q : Exit → Act → World → Prop) (S : World → Prop) (ex : Nat → Bool) : Nat → Array Bool → Act → World → Prop
  | 0, l, a, w => Region.ready md ops l = [] ∧ Q .normal a w
  | n + 1, l, a, w => (Region.ready md ops l = [] → Q .normal a w) ∧
      ∀ k ∈ Region.ready md ops l, wpOp P ops Q k (fun a' w' => (ex k = false → S w') ∧ wpAnyE P md ops Q S ex n (l.setIfInBounds k true) a' w') a w

theorem wpAnyE.plain : ∀ {n : Nat} {l : Array Bool} {a : Act} {w : World}, wpAnyE P md ops Q S ex n l a w → wpAny P md ops Q n l a w
  | 0, _, _, _, h => h
  | _ + 1, _, _, _, h => ⟨h.1, fun k hk => wpOp_mono (fun _ _ h' => h'.2.plain) (h.2 k hk)⟩

/-- what every operation that could come ahead of number i keeps to: it is apart from it, and no exempted one. -/
def Clear (md : Region.Mode) (ops : Array Oper) (ex : Nat → Bool) (i : Nat) (oi : Oper) (l : Array Bool) : Prop :=
  ∀ k ok, ops[k]? = some ok → k ≠ i → l.getD k true = false → (∀ e ∈ ok.after, Region.binds md e = true → e.on ≠ i) → oi.apart ops ok = true ∧ ex k = false

theorem Clear.set {i j : Nat} {oi : Oper} {l : Array Bool} (h : Clear md ops ex i oi l) (hj : l.getD j true = false) : Clear md ops ex i oi (l.setIfInBounds j true) := by
  intro k ok hk hki hun hno
  by_cases e : j = k
  · exact h k ok hk hki (e ▸ hj) hno
  · exact h k ok hk hki (by rwa [getD_set_ne true e] at hun) hno

theorem not_waiting {i j : Nat} {oj : Oper} {l : Array Bool} (hi : i ∈ Region.ready md ops l) (hoj : ops[j]? = some oj) (hj : j ∈ Region.ready md ops l) : ∀ e ∈ oj.after, Region.binds md e = true → e.on ≠ i := by
  intro e he hb heq
  obtain ⟨_, o, ho, hall⟩ := mem_ready.1 hj
  rw [hoj] at ho
  cases ho
  have q1 := hall e he hb
  have q0 := (mem_ready.1 hi).1
  rw [heq] at q1
  rcases Nat.lt_or_ge i l.size with c | c
  · simp [c] at q0 q1
    exact absurd (q0.symm.trans q1) (by simp)
  · simp [Array.getElem?_eq_none c] at q1

theorem wpAnyE.first {i : Nat} {oi : Oper} {v : Value} (hi : ops[i]? = some oi) (hsel : ∀ (j : Nat) (o : Oper) cs b, ops[j]? = some o → o.op ≠ .select cs b)
    (hQ : ∀ c a w, Q (.panic c) (a.put oi.dst v) w → Q (.panic c) a w) (n : Nat) :
    ∀ (l : Array Bool) (a : Act) (w : World), Clear md ops ex i oi l → i ∈ Region.ready md ops l → YieldsIf P ops S oi v a → S w →
      wpAnyE P md ops Q S ex n (l.setIfInBounds i true) (a.put oi.dst v) w → wpAnyE P md ops Q S ex (n + 1) l a w := by
  induction n with
  | zero =>
    intro l a w _ hr hy hS H
    refine ⟨fun h => (by rw [h] at hr; cases hr), fun j hj => ?_⟩
    by_cases hji : j = i
    · subst hji
      exact hy.wpOp hi hS ⟨fun _ => hS, H⟩
    · have := ready_mono hj hji
      rw [H.1] at this
      cases this
  | succ n ih =>
    intro l a w hc hr hy hS H
    refine ⟨fun h => (by rw [h] at hr; cases hr), fun j hj => ?_⟩
    by_cases hji : j = i
    · subst hji
      exact hy.wpOp hi hS ⟨fun _ => hS, H⟩
    · obtain ⟨hun, oj, hoj, _⟩ := mem_ready.1 hj
      obtain ⟨hap, hexj⟩ := hc j oj hoj hji hun (not_waiting hr hoj hj)
      have hstep := wpOp_putIf hoj hap (fun cs b => hsel i oi cs b hi) (fun cs b => hsel j oj cs b hoj) hQ hy (H.2 j (ready_mono hj hji))
      refine wpOp_mono (fun a' w' q => ⟨q.2.1, ih _ a' w' (hc.set hun) (ready_mono hr (Ne.symm hji)) q.1 (q.2.1 hexj) ?_⟩) hstep
      rw [Array.setIfInBounds_comm _ _ hji]
      exact q.2.2

/-- the exempted ones wait for number i, said by a Bool. -/
def waits (md : Region.Mode) (ops : Array Oper) (ex : Nat → Bool) (i : Nat) : Bool :=
  (List.range ops.size).all fun k => !(ex k) || (match ops[k]? with | some o => o.after.any fun e => Region.binds md e && e.on == i | none => true)

theorem wpAnyE.take {i : Nat} {oi : Oper} {v : Value} {fuel : Nat} {l : Array Bool} {a : Act} {w : World} (hi : ops[i]? = some oi)
    (hs : Region.noSelect ops = true) (hf : Region.free md ops l i = true) (hr : (Region.ready md ops l).contains i = true) (hx : waits md ops ex i = true)
    (hQ : ∀ c a w, Q (.panic c) (a.put oi.dst v) w → Q (.panic c) a w) (hy : YieldsIf P ops S oi v a) (hS : S w)
    (h : wpAnyE P md ops Q S ex fuel (l.setIfInBounds i true) (a.put oi.dst v) w) : wpAnyE P md ops Q S ex (fuel + 1) l a w := by
  refine wpAnyE.first hi (Region.noSelect_spec hs) hQ fuel l a w ?_ (by simpa using hr) hy hS h
  intro k ok hk hki hun hno
  refine ⟨Region.free_spec hi hf k ok hk hki hun hno, ?_⟩
  cases hxk : ex k with
  | false => rfl
  | true =>
    exfalso
    have hlt : k < ops.size := by
      rcases Nat.lt_or_ge k ops.size with c | c
      · exact c
      · rw [Array.getElem?_eq_none c] at hk; cases hk
    have := List.all_eq_true.1 hx k (List.mem_range.2 hlt)
    simp only [hxk, hk, Bool.not_true, Bool.false_or] at this
    obtain ⟨e, he, hb⟩ := Array.any_eq_true'.1 this
    simp only [Bool.and_eq_true, beq_iff_eq] at hb
    exact hno e he hb.1 hb.2

theorem wpAnyE.one {i : Nat} {o : Oper} {fuel : Nat} {l : Array Bool} {a : Act} {w : World} (hr : Region.ready md ops l = [i]) (ho : ops[i]? = some o)
    (h : ∀ K : Act → World → Prop, (∀ a w, (ex i = false → S w) → wpAnyE P md ops Q S ex fuel (l.setIfInBounds i true) a w → K a w) → if Region.wanted o (yielded ops a.tmps) = true then Oper.wp P o a w K Q else K (a.put o.dst undef) w) :
    wpAnyE P md ops Q S ex (fuel + 1) l a w := by
  refine ⟨fun e => (by rw [hr] at e; cases e), fun k hk => ?_⟩
  rw [hr] at hk
  obtain rfl := List.mem_singleton.1 hk
  exact wpOp_step ho fun K hK => h K fun a w h1 h2 => hK a w ⟨h1, h2⟩

theorem wpAnyE.done {fuel : Nat} {l : Array Bool} {a : Act} {w : World} (hr : Region.ready md ops l = []) (h : Q .normal a w) : wpAnyE P md ops Q S ex fuel l a w := by
  cases fuel with
  | zero => exact ⟨hr, h⟩
  | succ n => exact ⟨fun _ => h, by rw [hr]; simp⟩

theorem wp_region_E {id : Nat} {a : Act} {w : World} (S : World → Prop) (ex : Nat → Bool) (hm : P.follows .mixedOrders = true) (hS : S w.drew)
    (h : S w.drew → wpAnyE P .any ops Q S ex ops.size (Array.replicate ops.size false) a w.drew) : (Code.region id ops true).wp P Q a w :=
  wp_region_any hm (h hS).plain
end
end

section
open Go.RowKit

/-- an object on a shelf, with where its links lie. -/
structure Pl where
  x : Ob
  sa : Option Addr
  sc : Nat
def Pl.cells (r : Pl) : List Value := [.int .i64 r.x.id, .int .i64 r.x.kind, .slice r.sa r.x.links.length r.sc, .string r.x.text]
def rowC : List Pl → List Value
  | [] => []
  | r :: rs => r.cells ++ rowC rs
theorem rowC_append (A B : List Pl) : rowC (A ++ B) = rowC A ++ rowC B := by
  induction A with
  | nil => rfl
  | cons r A ih => simp [rowC, ih, List.append_assoc]
theorem rowC_length (A : List Pl) : (rowC A).length = A.length * 4 := by
  induction A with
  | nil => rfl
  | cons r A ih => simp [rowC, ih, Pl.cells]; omega
theorem rowC_get (A : List Pl) (i j : Nat) (hi : i < A.length) (hj : j < 4) : (rowC A)[i * 4 + j]? = (A[i].cells)[j]? := by
  induction A generalizing i with
  | nil => simp at hi
  | cons r A ih =>
    cases i with
    | zero =>
      simp only [rowC, Nat.zero_mul, Nat.zero_add, List.getElem_cons_zero]
      exact List.getElem?_append_left (by simpa [Pl.cells] using hj)
    | succ i =>
      have := ih i (by simpa using hi)
      rw [List.getElem_cons_succ, ← this]
      simp only [rowC]
      rw [List.getElem?_append_right (by simp [Pl.cells]; omega)]
      congr 1
      simp [Pl.cells]; omega

/-- an object's links lie from z on, in a block that is not the row's. -/
def Own0 (w : World) (z : Nat) (blk : Option Nat) (r : Pl) : Prop :=
  (r.x.links.length ≤ 1000 ∧ r.x.links.length ≤ r.sc) ∧ (0 < r.x.links.length → ∃ b off, r.sa = some ⟨b, off, none⟩ ∧ z ≤ b ∧ b < w.heap.size ∧ blk ≠ some b ∧ ∀ i, i < r.x.links.length → w.cell? ⟨b, off + i, none⟩ = some (.int .i64 (r.x.links.getD i 0)))
theorem Own0.holds {w : World} {z : Nat} {blk : Option Nat} {r : Pl} (h : Own0 w z blk r) : Holds w r.sa r.x.links := by
  intro i hi
  obtain ⟨b, off, e, _, hlt, _, hc⟩ := h.2 (by omega)
  exact ⟨b, off, e, hlt, hc⟩

/-- objects of one's own: their row, and their links, lie from z on. -/
structure Objs (w : World) (z : Nat) (v : Value) (rs : List Pl) : Prop where
  own : w.ownsRow z 58 4 v rs.length (rowC rs)
  each : ∀ r ∈ rs, Own0 w z v.ownBlock r

theorem heap_lt {w : World} {k : Nat} {o : Obj} (h : w.heap[k]? = some o) : k < w.heap.size := by
  rcases Nat.lt_or_ge k w.heap.size with c | c
  · exact c
  · rw [Array.getElem?_eq_none c] at h; cases h

theorem ownsRow_same {w w' : World} {base : Nat} {v : Value} {n : Nat} {xs : List Value} (h : w.ownsRow base 58 4 v n xs) (hs : ∀ g, v.ownBlock = some g → w'.heap[g]? = w.heap[g]?) : w'.ownsRow base 58 4 v n xs := by
  refine ⟨h.1, ?_⟩
  rcases h.2 with h | ⟨g, cap, cur, rfl, h1, h2, h3⟩
  · exact .inl h
  · exact .inr ⟨g, cap, cur, rfl, h1, (hs g rfl).trans h2, h3⟩

theorem Objs.below {w w' : World} {z : Nat} {v : Value} {rs : List Pl} (h : Objs w z v rs) (hb : Below w.heap.size w w') : Objs w' z v rs := by
  refine ⟨ownsRow_same h.own (fun g hg => hb.block g (h.own.lt g hg).2), fun r hr => ?_⟩
  obtain ⟨h1, h2⟩ := h.each r hr
  refine ⟨h1, fun h0 => ?_⟩
  obtain ⟨b, off, e, hpb, hlt, hne, hc⟩ := h2 h0
  exact ⟨b, off, e, hpb, Nat.lt_of_lt_of_le hlt hb.size, hne, fun i hi => (hb.cell (p := ⟨b, off + i, none⟩) hlt).trans (hc i hi)⟩
/-- what stands there reads as a list. -/
theorem Objs.reads {w : World} {z : Nat} {v : Value} {rs : List Pl} (h : Objs w z v rs) : ∃ a c, v = .slice a (rs.map Pl.x).length c ∧ HoldsS w a (rs.map Pl.x) ∧ rs.length ≤ c := by
  rw [List.length_map]
  rcases h.own.2 with ⟨rfl, e⟩ | ⟨g, cap, cur, rfl, h1, h2, h3, h4, h5, h6⟩
  · rw [e]
    refine ⟨none, 0, rfl, fun i hi => ?_, Nat.le_refl _⟩
    rw [List.length_map] at hi; omega
  · refine ⟨_, _, rfl, fun i hi => ⟨g, 0, rfl, heap_lt h2, fun k hk => ?_⟩, h3⟩
    rw [List.length_map] at hk
    have hc : ∀ j, j < 4 → w.cell? ⟨g, 0 + k * 4 + j, none⟩ = (rs[k].cells)[j]? := fun j hj => by
      rw [Nat.zero_add, cell_of_row w g _ _ _ _ h2, ← rowC_get rs k j hk hj, ← h6, List.getElem?_take, if_pos (by omega)]
      simp
    have hr := h.each rs[k] (List.getElem_mem hk)
    refine ⟨rs[k].sa, rs[k].sc, ?_⟩
    rw [List.getElem_map]
    exact ⟨by simpa [Pl.cells] using hc 0 (by omega), by simpa [Pl.cells] using hc 1 (by omega), by simpa [Pl.cells] using hc 2 (by omega), by simpa [Pl.cells] using hc 3 (by omega), hr.holds, by have := hr.1; omega⟩
/-- each object's links have room for themselves. -/
def Room (w : World) (a : Option Addr) (l : List Ob) : Prop := ∀ b off, a = some ⟨b, off, none⟩ → ∀ k, k < l.length → b < w.heap.size ∧ ∀ sa n sc, w.cell? ⟨b, off + k * 4 + 2, none⟩ = some (.slice sa n sc) → n ≤ sc
theorem Room.below {w w' : World} {a : Option Addr} {l : List Ob} (h : Room w a l) (hb : Below w.heap.size w w') : Room w' a l := fun b off e k hk => by
  obtain ⟨h1, h2⟩ := h b off e k hk
  refine ⟨Nat.lt_of_lt_of_le h1 hb.size, fun sa n sc hc => h2 sa n sc ?_⟩
  rwa [hb.cell (p := ⟨b, off + k * 4 + 2, none⟩) h1] at hc

/-- the objects behind an append or an insert. -/
theorem Objs.next {w w1 w2 : World} {z : Nat} {v v' : Value} {rs rs' : List Pl} {r : Pl} (h : Objs w z v rs) (hz : z ≤ w.heap.size) (hb : Below w.heap.size w w1) (hg : w1.grownBy w2 v.ownBlock)
    (ho : w2.ownsRow z 58 4 v' rs'.length (rowC rs')) (hk : ∀ k, v'.ownBlock = some k → v.ownBlock = some k ∨ w1.heap.size ≤ k)
    (hm : ∀ s ∈ rs', s ∈ rs ∨ s = r) (hl : r.x.links.length ≤ 1000 ∧ r.x.links.length ≤ r.sc) (hr : Holds w1 r.sa r.x.links) (hr' : ∀ b off, r.sa = some ⟨b, off, none⟩ → w.heap.size ≤ b) :
    Objs w2 z v' rs' ∧ Below z w w2 := by
  have h1 := h.below hb
  have hs1 := hb.size
  have hs2 := hg.size
  refine ⟨⟨ho, ?_⟩, ?_⟩
  · intro s hs
    have key : (s.x.links.length ≤ 1000 ∧ s.x.links.length ≤ s.sc) ∧ (0 < s.x.links.length → ∃ b off, s.sa = some ⟨b, off, none⟩ ∧ z ≤ b ∧ b < w1.heap.size ∧ v.ownBlock ≠ some b ∧ ∀ i, i < s.x.links.length → w1.cell? ⟨b, off + i, none⟩ = some (.int .i64 (s.x.links.getD i 0))) := by
      rcases hm s hs with hin | rfl
      · exact h1.each s hin
      · refine ⟨hl, fun h0 => ?_⟩
        obtain ⟨b, off, e, hlt, hc⟩ := hr 0 h0
        have hge := hr' b off e
        exact ⟨b, off, e, by omega, hlt, fun e' => by have := (h.own.lt b e').2; omega, hc⟩
    refine ⟨key.1, fun h0 => ?_⟩
    obtain ⟨b, off, e, hpb, hlt, hne, hc⟩ := key.2 h0
    refine ⟨b, off, e, hpb, by omega, fun e' => ?_, fun i hi => ?_⟩
    · rcases hk b e' with q | q
      · exact hne q
      · omega
    · rw [World.cell?_of_block (a := ⟨b, off + i, none⟩) (hg.block b hlt (fun q => hne q.symm))]
      exact hc i hi
  · refine ⟨hg.os.trans hb.os, hg.tape.trans hb.tape, hg.output.trans hb.output, by omega, fun k hk => ?_⟩
    rw [hg.block k (by omega) (fun e => by have := (h.own.lt k e.symm).1; omega)]
    exact hb.block k (by omega)
end

section
open Go.RowKit

theorem own_slice {w : World} {base : Nat} {v : Value} {n : Nat} {xs : List Value} (h : w.ownsRow base 58 4 v n xs) : ∃ g m c, v = .slice g m c := by
  rcases h.2 with ⟨e, _⟩ | ⟨g, cap, _, e, _⟩
  · exact ⟨_, _, _, e⟩
  · exact ⟨_, _, _, e⟩
theorem wpList_append_h {t : TypeId} {ops : Array Oper} {rest : List Oper} {o : Oper} {a : Act} {w : World} {Q : Exit → Act → World → Prop} (hgd : o.guard = none) (d s : Operand)
    (ho : o.op = .call { callee := .builtin .append, args := #[d, s], argTypes := #[t, t] }) (v u : Value) (hd : a.eval d = v) (hs : a.eval s = u) {v' : Value} {w' : World}
    (hr : (Builtin.append_ #[t, t] o.type #[v, u]).run Tryz.prog w = .ok v' w') (h : wpList Tryz.prog ops Q rest (a.put o.dst v') w') : wpList Tryz.prog ops Q (o :: rest) a w := by
  refine wpList_plain hgd fun K hK => ?_
  unfold Oper.wp execOp
  simp only [ho, resolve, invoke, builtin, Sem.run_bind, Sem.run_pure, Result.andThen_ok, List.map_toArray, List.map_cons, List.map_nil, hd, hs, hr]
  exact hK _ _ h
end

section
open Go.RowKit

/-- what 'take' says of an id that is there. -/
def hitE : Bool → Int
  | true => 0
  | false => 6
end

section
open Go.RowKit

/-- 'take': its answer, and what stands there behind it. -/
def takeE (L : List Ob) (x : Ob) : Int := match L[(placeI L x.id).toNat]? with
  | some y => if placeI L x.id = -1 then 0 else hitE (sameO y.id y.kind y.links y.text x.id x.kind x.links x.text)
  | none => 0
end

section
open Go.RowKit

theorem err_links {x : Ob} (h : x.err = 0) : x.links.length ≤ 1000 := by
  have := (checkE_zero h).2.2.1
  omega
end

section
open Go.RowKit

abbrev o1 : Ob := ⟨1, 1, [], tee⟩
abbrev o2 : Ob := ⟨2, 2, [1], tee⟩
abbrev o3 : Ob := ⟨3, 3, [2], tee⟩
abbrev o4 : Ob := ⟨4, 2, [1, 2], tee⟩
abbrev o5 : Ob := ⟨5, 3, [4, 3], tee⟩
def shelfL : List Ob := [o1, o2, o3, o4, o5]

/-- an object's four cells, and where its links lie. -/
structure C4 (g o : Nat) (x : Ob) (sa : Option Addr) (sc : Nat) (w : World) : Prop where
  lt : g < w.heap.size
  c0 : w.cell? ⟨g, o, none⟩ = some (.int .i64 x.id)
  c1 : w.cell? ⟨g, o + 1, none⟩ = some (.int .i64 x.kind)
  c2 : w.cell? ⟨g, o + 2, none⟩ = some (.slice sa x.links.length sc)
  c3 : w.cell? ⟨g, o + 3, none⟩ = some (.string x.text)
  holds : Holds w sa x.links
theorem C4.at {g o : Nat} {x : Ob} {sa : Option Addr} {sc : Nat} {w : World} (h : C4 g o x sa sc w) (hl : x.links.length ≤ 9223372036854775807) : ObAt w g o x := ⟨sa, sc, h.c0, h.c1, h.c2, h.c3, h.holds, hl⟩

/-- the shelf of the statements' begin. -/
theorem shelf_five (w : World) : Calls Tryz.prog 61 #[] w fun e w' => ∃ g b2 b3 b4 b5, e = .returned (.slice (some ⟨g, 0, none⟩) 5 5) ∧ Below w.heap.size w w' ∧
    C4 g 0 o1 none 0 w' ∧ C4 g 4 o2 (some ⟨b2, 0, none⟩) 1 w' ∧ C4 g 8 o3 (some ⟨b3, 0, none⟩) 1 w' ∧ C4 g 12 o4 (some ⟨b4, 0, none⟩) 2 w' ∧ C4 g 16 o5 (some ⟨b5, 0, none⟩) 2 w' := by
  refine (shelf_any w).mono ?_
  rintro e w' ⟨g, b2, b3, b4, b5, rfl, hB, _, hlt, hg, q2, q3, q4, q5⟩
  refine ⟨g, b2, b3, b4, b5, rfl, hB, ?_, ?_, ?_, ?_, ?_⟩
  · constructor <;> first | exact hlt | (simp [World.cell?, hg, shelfCells]; done) | (intro i hi; simp at hi)
  · constructor <;> first | exact hlt | (simp [World.cell?, hg, shelfCells]; done) | exact q2
  · constructor <;> first | exact hlt | (simp [World.cell?, hg, shelfCells]; done) | exact q3
  · constructor <;> first | exact hlt | (simp [World.cell?, hg, shelfCells]; done) | exact q4
  · constructor <;> first | exact hlt | (simp [World.cell?, hg, shelfCells]; done) | exact q5

theorem five_holds {g b2 b3 b4 b5 : Nat} {w : World} (h1 : C4 g 0 o1 none 0 w) (h2 : C4 g 4 o2 (some ⟨b2, 0, none⟩) 1 w) (h3 : C4 g 8 o3 (some ⟨b3, 0, none⟩) 1 w) (h4 : C4 g 12 o4 (some ⟨b4, 0, none⟩) 2 w) (h5 : C4 g 16 o5 (some ⟨b5, 0, none⟩) 2 w) : HoldsS w (some ⟨g, 0, none⟩) shelfL := by
  intro i hi
  refine ⟨g, 0, rfl, h1.lt, fun j hj => ?_⟩
  match j, hj with
  | 0, _ => exact h1.at (by simp)
  | 1, _ => exact h2.at (by simp)
  | 2, _ => exact h3.at (by simp)
  | 3, _ => exact h4.at (by simp)
  | 4, _ => exact h5.at (by simp)

theorem shelf_holds (w : World) : Calls Tryz.prog 61 #[] w fun e w' => ∃ g, e = .returned (.slice (some ⟨g, 0, none⟩) 5 5) ∧ Below w.heap.size w w' ∧ HoldsS w' (some ⟨g, 0, none⟩) shelfL := by
  refine (shelf_five w).mono ?_
  rintro e w' ⟨g, b2, b3, b4, b5, rfl, hB, h1, h2, h3, h4, h5⟩
  exact ⟨g, rfl, hB, five_holds h1 h2 h3 h4 h5⟩
end

section
open Go.RowKit
end

section
open Go.RowKit

/-- ids rise. -/
def Rises (l : List Ob) : Prop := l.Pairwise (fun x y => x.id < y.id)

theorem eachC_iff {l : List Ob} (m : List Ob) : ∀ last : Int, eachC l last m = 0 ↔ (∀ x ∈ m, x.err = 0 ∧ last < x.id ∧ linkS l x.kind 0 x.links = 0) ∧ Rises m := by
  induction m with
  | nil => intro last; simp [eachC, Rises]
  | cons y ys ih =>
    intro last
    constructor
    · intro h
      refine ⟨eachC_all _ _ h, ?_⟩
      rw [eachC] at h
      split at h
      · omega
      · obtain ⟨h1, h2⟩ := (ih y.id).1 h
        exact List.pairwise_cons.2 ⟨fun x hx => (h1 x hx).2.1, h2⟩
    · rintro ⟨h1, h2⟩
      obtain ⟨hy, hr⟩ := List.pairwise_cons.1 h2
      obtain ⟨e1, e2, e3⟩ := h1 y (by simp)
      have hc : chk1 l last y = 0 := by rw [chk1, if_neg (fun e => e e1), if_neg (by omega), e3]
      rw [eachC, if_neg (fun e => e hc), ih]
      exact ⟨fun x hx => ⟨(h1 x (by simp [hx])).1, hy x hx, (h1 x (by simp [hx])).2.2⟩, hr⟩

theorem checkS_iff {l : List Ob} : checkS l = 0 ↔ l.length ≤ 40 ∧ (∀ x ∈ l, x.err = 0 ∧ linkS l x.kind 0 x.links = 0) ∧ Rises l := by
  unfold checkS
  split
  · constructor
    · intro h; omega
    · intro h; omega
  · rw [eachC_iff]
    constructor
    · rintro ⟨h1, h2⟩
      exact ⟨by omega, fun x hx => ⟨(h1 x hx).1, (h1 x hx).2.2⟩, h2⟩
    · rintro ⟨_, h1, h2⟩
      exact ⟨fun x hx => ⟨(h1 x hx).1, by have := (checkE_zero (h1 x hx).1).1; omega, (h1 x hx).2⟩, h2⟩

theorem Rises.lt {l : List Ob} (h : Rises l) {i j : Nat} (hi : i < l.length) (hj : j < l.length) (hij : i < j) : l[i].id < l[j].id := List.pairwise_iff_getElem.1 h i j hi hj hij
theorem placeI_get {l : List Ob} {x : Int} {i : Nat} (h : placeI l x = i) : ∃ hi : i < l.length, l[i].id = x := by
  unfold placeI at h
  split at h
  · rename_i k hk
    rw [List.findIdx?_eq_some_iff_getElem] at hk
    obtain ⟨hk', hid, _⟩ := hk
    have : k = i := by omega
    subst this
    exact ⟨hk', by simpa using hid⟩
  · omega
theorem placeI_rise {l : List Ob} (h : Rises l) {i : Nat} (hi : i < l.length) : placeI l l[i].id = i :=
  findIdx_hit hi (fun j hj hji => by have := h.lt hj hi hji; simp; omega) (by simp)
theorem linkS_iff {l : List Ob} {kind : Int} (L : List Int) : ∀ i : Nat, linkS l kind i L = 0 ↔ ∀ j (h : j < L.length), 0 ≤ placeI l L[j] ∧ mayB kind ((i + j : Nat) : Int) (kindAt l L[j]) = true := by
  induction L with
  | nil => intro i; simp [linkS]
  | cons x xs ih =>
    intro i
    rw [linkS]
    constructor
    · intro h j hj
      split at h
      · omega
      split at h
      · omega
      rename_i h1 h2
      match j, hj with
      | 0, _ => exact ⟨by simpa using h1, by simpa using h2⟩
      | j + 1, hj =>
        have := (ih (i + 1)).1 h j (by simpa using hj)
        rw [show i + (j + 1) = i + 1 + j by omega]
        simpa using this
    · intro h
      have h0 := h 0 (by simp)
      simp only [List.getElem_cons_zero, Nat.add_zero] at h0
      rw [if_neg (by omega), if_neg (by rw [h0.2]; simp), ih]
      intro j hj
      have := h (j + 1) (by simpa using hj)
      rw [show i + (j + 1) = i + 1 + j by omega] at this
      simpa using this

theorem kindAt_at {l : List Ob} {x : Int} {i : Nat} (h : placeI l x = i) (hi : i < l.length) : kindAt l x = l[i].kind := by
  unfold kindAt
  rw [show (placeI l x).toNat = i by omega, List.getElem?_eq_getElem hi]
end

section
open Go.RowKit

theorem sameO_eq {x y : Ob} (h : sameO x.id x.kind x.links x.text y.id y.kind y.links y.text = true) : x = y := by
  obtain ⟨i, k, L, t⟩ := x
  obtain ⟨i', k', L', t'⟩ := y
  simp only [sameO, sameB, Bool.and_eq_true, decide_eq_true_eq] at h
  obtain ⟨⟨⟨h1, h2⟩, h3⟩, h4⟩ := h
  have h5 : t = t' := by
    rw [ByteArray.toList_eq, ByteArray.toList_eq] at h3
    obtain ⟨⟨a⟩⟩ := t
    obtain ⟨⟨b⟩⟩ := t'
    simp at h3
    rw [h3]
  rw [h1, h2, h4, h5]

theorem takeE_hit {L : List Ob} {x : Ob} {i : Nat} (hp : placeI L x.id = i) (hi : i < L.length) : takeE L x = hitE (sameO L[i].id L[i].kind L[i].links L[i].text x.id x.kind x.links x.text) := by
  unfold takeE
  rw [show (placeI L x.id).toNat = i by omega, List.getElem?_eq_getElem hi]
  simp only
  rw [if_neg (by omega)]
end

section
open Go.RowKit
end

section
open Go.RowKit

/-- a list of objects that is read, as a row of cells. -/
theorem holds_row {w : World} {a : Option Addr} {m : List Ob} (h : HoldsS w a m) (hm : 0 < m.length) :
    ∃ (b off : Nat) (rs : List Pl), a = some ⟨b, off, none⟩ ∧ b < w.heap.size ∧ rs.map Pl.x = m ∧ (∀ j u, (rowC rs)[j]? = some u → w.cell? ((⟨b, off, none⟩ : Addr).add j) = some u) ∧ ∀ r ∈ rs, Holds w r.sa r.x.links := by
  obtain ⟨b, off, rfl, hbl, hc⟩ := h 0 hm
  have key : ∀ (n : Nat), n ≤ m.length → ∃ rs : List Pl, rs.map Pl.x = m.take n ∧ (∀ j u, (rowC rs)[j]? = some u → w.cell? ⟨b, off + j, none⟩ = some u) ∧ ∀ r ∈ rs, Holds w r.sa r.x.links := by
    intro n
    induction n with
    | zero => intro _; exact ⟨[], rfl, fun j u hj => by simp [rowC] at hj, fun r hr => by cases hr⟩
    | succ n ih =>
      intro hn
      obtain ⟨rs, e1, e2, e3⟩ := ih (by omega)
      obtain ⟨sa, sc, c0, c1, c2, c3, hh, _⟩ := hc n (by omega)
      have hl : rs.length = n := by have := congrArg List.length e1; rw [List.length_map, List.length_take] at this; omega
      refine ⟨rs ++ [⟨m[n], sa, sc⟩], ?_, ?_, ?_⟩
      · rw [List.map_append, e1, List.take_succ_eq_append_getElem (by omega)]; rfl
      · intro j u hj
        rw [rowC_append] at hj
        rcases Nat.lt_or_ge j (n * 4) with c | c
        · rw [List.getElem?_append_left (by rw [rowC_length, hl]; exact c)] at hj
          exact e2 j u hj
        · rw [List.getElem?_append_right (by rw [rowC_length, hl]; exact c), rowC_length, hl] at hj
          have hj4 : j - n * 4 < 4 := by
            rcases Nat.lt_or_ge (j - n * 4) 4 with q | q
            · exact q
            · rw [List.getElem?_eq_none (by simpa [rowC, Pl.cells] using q)] at hj; cases hj
          obtain ⟨i, hi⟩ : ∃ i, j = n * 4 + i ∧ i < 4 := ⟨j - n * 4, by omega, hj4⟩
          obtain ⟨rfl, hi⟩ := hi
          rw [show n * 4 + i - n * 4 = i by omega] at hj
          match i, hi with
          | 0, _ => rw [show off + (n * 4 + 0) = off + n * 4 by omega, c0]; simpa [rowC, Pl.cells] using hj
          | 1, _ => rw [show off + (n * 4 + 1) = off + n * 4 + 1 by omega, c1]; simpa [rowC, Pl.cells] using hj
          | 2, _ => rw [show off + (n * 4 + 2) = off + n * 4 + 2 by omega, c2]; simpa [rowC, Pl.cells] using hj
          | 3, _ => rw [show off + (n * 4 + 3) = off + n * 4 + 3 by omega, c3]; simpa [rowC, Pl.cells] using hj
      · intro r hr
        rcases List.mem_append.1 hr with q | q
        · exact e3 r q
        · obtain rfl := List.mem_singleton.1 q; exact hh
  obtain ⟨rs, e1, e2, e3⟩ := key m.length (Nat.le_refl _)
  rw [List.take_length] at e1
  refine ⟨b, off, rs, rfl, hbl, e1, fun j u hj => ?_, e3⟩
  have hadd : (⟨b, off, none⟩ : Addr).add j = ⟨b, off + j, none⟩ := by unfold Addr.add; split <;> simp_all
  rw [hadd]
  exact e2 j u hj
end

section
open Go.RowKit
end
end Go.Proofs.YtehmlpkapjdhkaaGreatDoor
