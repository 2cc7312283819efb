import Derived.Test.YtehmlpkapjdhkaaA13
namespace Go.Proofs.Ytehmlpkapjdhkaa
open Go.RowKit

/-- an object, as data. -/
structure Ob where
  id : Int
  kind : Int
  links : List Int
  text : ByteArray

/-- an object's value. -/
abbrev Ob.val (x : Ob) (sa : Option Addr) (sc : Nat) : Value := .agg #[.int .i64 x.id, .int .i64 x.kind, .slice sa x.links.length sc, .string x.text]

/-- an object lies at a place. -/
def ObAt (w : World) (b o : Nat) (x : Ob) : Prop :=
  ∃ sa sc, w.cell? ⟨b, o, none⟩ = some (.int .i64 x.id) ∧ w.cell? ⟨b, o + 1, none⟩ = some (.int .i64 x.kind) ∧ w.cell? ⟨b, o + 2, none⟩ = some (.slice sa x.links.length sc) ∧ w.cell? ⟨b, o + 3, none⟩ = some (.string x.text) ∧ Holds w sa x.links ∧ x.links.length ≤ 9223372036854775807

/-- a slice of objects reads as a list. -/
def HoldsS (w : World) (a : Option Addr) (l : List Ob) : Prop :=
  ∀ i, i < l.length → ∃ b off, a = some ⟨b, off, none⟩ ∧ b < w.heap.size ∧ ∀ i (h : i < l.length), ObAt w b (off + i * 4) l[i]

theorem ObAt.below {w w' : World} {b o : Nat} {x : Ob} (h : ObAt w b o x) (hb : Below w.heap.size w w') (hlt : b < w.heap.size) : ObAt w' b o x := by
  obtain ⟨sa, sc, h0, h1, h2, h3, h4, h5⟩ := h
  exact ⟨sa, sc, (hb.cell (p := ⟨b, o, none⟩) hlt).trans h0, (hb.cell (p := ⟨b, o + 1, none⟩) hlt).trans h1, (hb.cell (p := ⟨b, o + 2, none⟩) hlt).trans h2, (hb.cell (p := ⟨b, o + 3, none⟩) hlt).trans h3, h4.below hb, h5⟩

theorem HoldsS.below {w w' : World} {a : Option Addr} {l : List Ob} (h : HoldsS w a l) (hb : Below w.heap.size w w') : HoldsS w' a l := by
  intro i hi
  obtain ⟨b, off, e, hlt, hc⟩ := h i hi
  exact ⟨b, off, e, Nat.lt_of_lt_of_le hlt hb.size, fun j hj => (hc j hj).below hb hlt⟩

set_option maxHeartbeats 400000 in
theorem place1_any (x : Ob) (sa : Option Addr) (sc : Nat) (id : Int) (p : Nat) (w : World) (hp : w.cell? ⟨p, 0, none⟩ = some (.int .i64 id)) (hlt : p < w.heap.size) :
    Calls Try.prog 37 #[x.val sa sc, .pointer (some ⟨p, 0, none⟩)] w fun e w' => e = .returned (.bool (x.id == id)) ∧ Below w.heap.size w w' := by
  go_enter Try.func37, Try.ntmps37
  go_wp2
  go_ret
  exact ⟨rfl, below_alloc _ _⟩

/-- the place of an id, or -1. -/
def placeI (l : List Ob) (id : Int) : Int := match l.findIdx? (fun x => x.id == id) with | some i => (i : Int) | none => -1

theorem findIdx_hit {l : List Ob} {id : Int} {k : Nat} (hk : k < l.length) (hno : ∀ j (h : j < l.length), j < k → (l[j].id == id) = false) (h : (l[k].id == id) = true) : placeI l id = k := by
  have : l.findIdx? (fun x => x.id == id) = some k := by
    rw [List.findIdx?_eq_some_iff_getElem]
    exact ⟨hk, h, fun j hj => by simpa using hno j (by omega) hj⟩
  simp [placeI, this]
theorem findIdx_miss {l : List Ob} {id : Int} (hno : ∀ j (h : j < l.length), (l[j].id == id) = false) : placeI l id = -1 := by
  have : l.findIdx? (fun x => x.id == id) = none := by
    rw [List.findIdx?_eq_none_iff]
    intro x hx
    obtain ⟨j, hj, rfl⟩ := List.getElem_of_mem hx
    exact hno j hj
  simp [placeI, this]

set_option maxHeartbeats 400000 in
theorem indexFunc_any (a : Option Addr) (c : Nat) (l : List Ob) (id : Int) (p : Nat) (w : World) (h : HoldsS w a l) (hl : l.length ≤ 9223372036854775807) (hp : w.cell? ⟨p, 0, none⟩ = some (.int .i64 id)) (hlt : p < w.heap.size) :
    Calls Try.prog 36 #[.slice a l.length c, .func (.func 37) #[] #[.pointer (some ⟨p, 0, none⟩)]] w fun e w' => e = .returned (.int .i64 (placeI l id)) ∧ Below w.heap.size w w' := by
  go_enter Try.func36, Try.ntmps36
  go_wp2
  go_loopw [8] (fun i wr => ∃ k : Nat, i = .int .i64 k ∧ k ≤ l.length ∧ Below w.heap.size w wr ∧ Hid (∀ j (hj : j < l.length), j < k → (l[j].id == id) = false)) (fun i _ => l.length - (intOf i).toNat)
  case atStart => exact ⟨0, rfl, Nat.zero_le _, Below.refl _ _, fun j _ h => absurd h (Nat.not_lt_zero j)⟩
  case round =>
    obtain ⟨k, rfl, hk, hB, H⟩ := hrel
    by_cases hkl : k < l.length
    · obtain ⟨b, off, rfl, hb, hc⟩ := (h.below hB) k hkl
      obtain ⟨sa, sc, x0, x1, x2, x3, x4, x5⟩ := hc k hkl
      have hpr : wr.cell? ⟨p, 0, none⟩ = some (.int .i64 id) := (hB.cell (p := ⟨p, 0, none⟩) hlt).trans hp
      clear hc
      go_wp2_with fail
      refine (place1_any l[k] sa sc id p _ hpr (Nat.lt_of_lt_of_le hlt hB.size)).mono ?_
      rintro e w1 ⟨rfl, hb1⟩
      have hB1 := hB.trans (hb1.mono hB.size)
      clear hb1 x0 x1 x2 x3 x4 hpr
      by_cases hq : (l[k].id == id) = true
      · have HR : Hid (placeI l id = k) := findIdx_hit hkl H.out hq
        rw [hq]
        clear hq
        go_wp2
        go_ret
        exact ⟨ret_int HR.out.symm, hB1⟩
      · have hq' : (l[k].id == id) = false := by simpa using hq
        have HN : Hid (∀ j (hj : j < l.length), j < k + 1 → (l[j].id == id) = false) := fun j hj hjk => by
          rcases Nat.lt_or_ge j k with h1 | h1
          · exact H.out j hj h1
          · have : j = k := by omega
            subst this
            exact hq'
        rw [hq']
        clear hq hq'
        go_wp2
        go_roundw
        case rel => exact ⟨k + 1, by go_num, by omega, hB1, HN⟩
        case measure => simp [intOf]; omega
    · have HR : Hid (placeI l id = -1) := findIdx_miss (fun j hj => H.out j hj (by omega))
      go_wp2
      go_ret
      exact ⟨ret_int HR.out.symm, hB⟩

set_option maxHeartbeats 400000 in
theorem place_any (a : Option Addr) (c : Nat) (l : List Ob) (id : Int) (w : World) (h : HoldsS w a l) (hl : l.length ≤ 9223372036854775807) :
    Calls Try.prog 22 #[.slice a l.length c, .int .i64 id] w fun e w' => e = .returned (.int .i64 (placeI l id)) ∧ Below w.heap.size w w' := by
  have hmf : ∀ (fn : Fn) (first cap : Array Value) (w : World), (Instr.makeFunc fn first cap).run Try.prog w = .ok (.func fn first cap) w := fun _ _ _ _ => rfl
  have hp : (w.alloc (.cells #[.int .i64 id] 3)).cell? ⟨w.heap.size, 0, none⟩ = some (.int .i64 id) := by rw [World.cell?_alloc_at _ _ _ _ rfl]; rfl
  go_enter Try.func22, Try.ntmps22
  go_wp2_with fail
  refine (indexFunc_any a c l id w.heap.size _ (h.below (below_alloc _ _)) hl hp (by simp)).mono ?_
  rintro e w1 ⟨rfl, hb⟩
  have hB := (below_alloc _ _).trans (hb.mono (by simp))
  go_wp2
  go_ret
  exact ⟨rfl, hB⟩

/-- may link i of an object of a kind be to one of kind to? -/
def mayB (kind : Int) (i : Int) (to : Int) : Bool :=
  if kind = 2 then (to == 1 || to == 2) else if kind = 3 ∧ i = 0 then to == 2 else if kind = 3 then to == 3 else false

set_option maxHeartbeats 400000 in
theorem mayLink_any (kind i to : Int) (w : World) :
    Calls Try.prog 35 #[.int .i64 kind, .int .i64 i, .int .i64 to] w fun e w' => e = .returned (.bool (mayB kind i to)) ∧ w' = w := by
  go_enter Try.func35, Try.ntmps35
  go_wp2
  all_goals go_ret
  all_goals refine ⟨ret_bool ?_, rfl⟩
  all_goals simp_all [mayB]
end Go.Proofs.Ytehmlpkapjdhkaa
