import Derived.Test.YtehmlpkapjdhkaaF2
namespace Go.Proofs.Ytehmlpkapjdhkaa
open Go.RowKit

/-- the first that P says yes to, or -1. -/
def indexP (P : Ob → Bool) (l : List Ob) : Int := match l.findIdx? P with | some i => (i : Int) | none => -1
theorem indexP_hit {P : Ob → Bool} {l : List Ob} {k : Nat} (hk : k < l.length) (hno : ∀ j (h : j < l.length), j < k → P l[j] = false) (h : P l[k] = true) : indexP P l = k := by
  have : l.findIdx? P = some k := by
    rw [List.findIdx?_eq_some_iff_getElem]
    exact ⟨hk, h, fun j hj => by simpa using hno j (by omega) hj⟩
  simp [indexP, this]
theorem indexP_miss {P : Ob → Bool} {l : List Ob} (hno : ∀ j (h : j < l.length), P l[j] = false) : indexP P l = -1 := by
  have : l.findIdx? P = none := by
    rw [List.findIdx?_eq_none_iff]
    intro x hx
    obtain ⟨j, hj, rfl⟩ := List.getElem_of_mem hx
    exact hno j hj
  simp [indexP, this]
theorem indexP_any {P : Ob → Bool} {l : List Ob} : decide (0 ≤ indexP P l) = l.any P := by
  unfold indexP
  split
  · rename_i i hi
    rw [List.findIdx?_eq_some_iff_getElem] at hi
    obtain ⟨h1, h2, _⟩ := hi
    rw [show l.any P = true from List.any_eq_true.2 ⟨_, List.getElem_mem h1, h2⟩]
    simp
  · rename_i hi
    rw [List.findIdx?_eq_none_iff] at hi
    rw [show l.any P = false from List.any_eq_false.2 (fun x hx => by simp [hi x hx])]
    simp

/-- is it of another kind, and one of ids? -/
def otherP (kind : Int) (ids : List Int) (x : Ob) : Bool := x.kind != kind && decide (x.id ∈ ids)

set_option maxHeartbeats 800000 in
theorem indexOther_any (a : Option Addr) (c : Nat) (l : List Ob) (kind : Int) (p q : Nat) (a2 : Option Addr) (c2 : Nat) (ids : List Int) (w : World) (h : HoldsS w a l) (hl : l.length ≤ 9223372036854775807) (hp : w.cell? ⟨p, 0, none⟩ = some (.int .i64 kind)) (hlt : p < w.heap.size)
    (hq : w.cell? ⟨q, 0, none⟩ = some (.slice a2 ids.length c2)) (hqlt : q < w.heap.size) (h2 : Holds w a2 ids) (hm : ids.length ≤ 9223372036854775807) :
    Calls Try.prog 36 #[.slice a l.length c, .func (.func 45) #[] #[.pointer (some ⟨p, 0, none⟩), .pointer (some ⟨q, 0, none⟩)]] w fun e w' => e = .returned (.int .i64 (indexP (otherP kind ids) l)) ∧ Below w.heap.size w w' := by
  go_enter Try.func36, Try.ntmps36
  go_wp2
  go_loopw [8] (fun i wr => ∃ k : Nat, i = .int .i64 k ∧ k ≤ l.length ∧ Below w.heap.size w wr ∧ Hid (∀ j (hj : j < l.length), j < k → otherP kind ids l[j] = false)) (fun i _ => l.length - (intOf i).toNat)
  case atStart => exact ⟨0, rfl, Nat.zero_le _, Below.refl _ _, fun j _ h => absurd h (Nat.not_lt_zero j)⟩
  case round =>
    obtain ⟨k, rfl, hk, hB, H⟩ := hrel
    by_cases hkl : k < l.length
    · obtain ⟨b, off, rfl, hb, hc⟩ := (h.below hB) k hkl
      obtain ⟨sa, sc, x0, x1, x2, x3, x4, x5⟩ := hc k hkl
      have hpr : wr.cell? ⟨p, 0, none⟩ = some (.int .i64 kind) := (hB.cell (p := ⟨p, 0, none⟩) hlt).trans hp
      have hqr : wr.cell? ⟨q, 0, none⟩ = some (.slice a2 ids.length c2) := (hB.cell (p := ⟨q, 0, none⟩) hqlt).trans hq
      have h2r := h2.below hB
      clear hc
      go_wp2_with fail
      refine (other1_any l[k] sa sc kind p q a2 c2 ids _ hpr (Nat.lt_of_lt_of_le hlt hB.size) hqr (Nat.lt_of_lt_of_le hqlt hB.size) h2r hm).mono ?_
      rintro e w1 ⟨rfl, hb1⟩
      have hB1 := hB.trans (hb1.mono hB.size)
      clear hb1 x0 x1 x2 x3 x4 hpr hqr h2r
      by_cases hqq : (l[k].kind != kind && decide (l[k].id ∈ ids)) = true
      · have HR : Hid (indexP (otherP kind ids) l = k) := indexP_hit hkl H.out hqq
        rw [hqq]
        clear hqq
        go_wp2
        go_ret
        exact ⟨ret_int HR.out.symm, hB1⟩
      · have hq' : (l[k].kind != kind && decide (l[k].id ∈ ids)) = false := by simpa using hqq
        have HN : Hid (∀ j (hj : j < l.length), j < k + 1 → otherP kind ids l[j] = false) := fun j hj hjk => by
          rcases Nat.lt_or_ge j k with h1 | h1
          · exact H.out j hj h1
          · have : j = k := by omega
            subst this
            exact hq'
        rw [hq']
        clear hqq hq'
        go_wp2
        go_roundw
        case rel => exact ⟨k + 1, by go_num, by omega, hB1, HN⟩
        case measure => simp [intOf]; omega
    · have HR : Hid (indexP (otherP kind ids) l = -1) := indexP_miss (fun j hj => H.out j hj (by omega))
      go_wp2
      go_ret
      exact ⟨ret_int HR.out.symm, hB⟩

set_option maxHeartbeats 400000 in
theorem containsOther_any (a : Option Addr) (c : Nat) (l : List Ob) (kind : Int) (p q : Nat) (a2 : Option Addr) (c2 : Nat) (ids : List Int) (w : World) (h : HoldsS w a l) (hl : l.length ≤ 9223372036854775807) (hp : w.cell? ⟨p, 0, none⟩ = some (.int .i64 kind)) (hlt : p < w.heap.size)
    (hq : w.cell? ⟨q, 0, none⟩ = some (.slice a2 ids.length c2)) (hqlt : q < w.heap.size) (h2 : Holds w a2 ids) (hm : ids.length ≤ 9223372036854775807) :
    Calls Try.prog 43 #[.slice a l.length c, .func (.func 45) #[] #[.pointer (some ⟨p, 0, none⟩), .pointer (some ⟨q, 0, none⟩)]] w fun e w' => e = .returned (.bool (l.any (otherP kind ids))) ∧ Below w.heap.size w w' := by
  have HR : Hid (decide (0 ≤ indexP (otherP kind ids) l) = l.any (otherP kind ids)) := indexP_any
  go_enter Try.func43, Try.ntmps43
  go_wp2_with fail
  refine (indexOther_any a c l kind p q a2 c2 ids w h hl hp hlt hq hqlt h2 hm).mono ?_
  rintro e w1 ⟨rfl, hb⟩
  go_wp2
  go_ret
  exact ⟨ret_bool HR.out, hb⟩

set_option maxHeartbeats 400000 in
theorem anyOther_any (a : Option Addr) (c : Nat) (l : List Ob) (kind : Int) (a2 : Option Addr) (c2 : Nat) (ids : List Int) (w : World) (h : HoldsS w a l) (hl : l.length ≤ 9223372036854775807) (h2 : Holds w a2 ids) (hm : ids.length ≤ 9223372036854775807) :
    Calls Try.prog 30 #[.slice a l.length c, .int .i64 kind, .slice a2 ids.length c2] w fun e w' => e = .returned (.bool (l.any (otherP kind ids))) ∧ Below w.heap.size w w' := by
  have hmf : ∀ (fn : Fn) (first cap : Array Value) (w : World), (Instr.makeFunc fn first cap).run Try.prog w = .ok (.func fn first cap) w := fun _ _ _ _ => rfl
  have hA := below_alloc w (.cells #[.int .i64 kind] 3)
  have hp : (w.alloc (.cells #[.int .i64 kind] 3)).cell? ⟨w.heap.size, 0, none⟩ = some (.int .i64 kind) := by rw [World.cell?_alloc_at _ _ _ _ rfl]; rfl
  have hA2 := below_alloc (w.alloc (.cells #[.int .i64 kind] 3)) (.cells #[.slice a2 ids.length c2] 26)
  have hp2 := (hA2.cell (p := ⟨w.heap.size, 0, none⟩) (by simp)).trans hp
  have hq : ((w.alloc (.cells #[.int .i64 kind] 3)).alloc (.cells #[.slice a2 ids.length c2] 26)).cell? ⟨w.heap.size + 1, 0, none⟩ = some (.slice a2 ids.length c2) := by
    rw [World.cell?_alloc_at _ _ _ _ (by simp)]; rfl
  have hB := hA.trans (hA2.mono hA.size)
  clear hA hA2 hp
  go_enter Try.func30, Try.ntmps30
  go_wp2_with fail
  refine (containsOther_any a c l kind w.heap.size (w.heap.size + 1) a2 c2 ids _ (h.below hB) hl hp2 (by simp; omega) hq (by simp) (h2.below hB) hm).mono ?_
  rintro e w1 ⟨rfl, hb⟩
  have hB1 := hB.trans (hb.mono hB.size)
  clear hb hB hp2 hq
  go_wp2
  go_ret
  exact ⟨rfl, hB1⟩

set_option maxHeartbeats 400000 in
theorem parents_any (x : Ob) (sa : Option Addr) (sc : Nat) (w : World) (h1 : 1 ≤ x.links.length) (hs : x.links.length ≤ sc) (hl : x.links.length ≤ 9223372036854775807) :
    Calls Try.prog 32 #[x.val sa sc] w fun e w' => e = .returned (.slice (if sc = 1 then sa else sa.map (fun y => y.add 1)) (x.links.length - 1) (sc - 1)) ∧ Below w.heap.size w w' := by
  have hs1 : (1 : Int) ≤ (sc : Int) := by omega
  have h1' : (1 : Int) ≤ (x.links.length : Int) := by omega
  by_cases hc : sc = 1
  · rw [if_pos hc, show sc - 1 = 0 by omega]
    go_enter Try.func32, Try.ntmps32
    go_wp2
    go_ret
    exact ⟨rfl, below_alloc _ _⟩
  · rw [if_neg hc]
    go_enter Try.func32, Try.ntmps32
    go_wp2
    go_ret
    exact ⟨rfl, below_alloc _ _⟩
end Go.Proofs.Ytehmlpkapjdhkaa
