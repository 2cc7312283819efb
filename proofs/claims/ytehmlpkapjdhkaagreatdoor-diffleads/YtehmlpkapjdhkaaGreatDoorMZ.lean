import Derived.Test.YtehmlpkapjdhkaaGreatDoorMA
import Derived.Test.YtehmlpkapjdhkaaGreatDoorMH
import Derived.Test.YtehmlpkapjdhkaaGreatDoorMX8
import Derived.Test.YtehmlpkapjdhkaaGreatDoorMU
namespace Go.Proofs.YtehmlpkapjdhkaaGreatDoor
section
open Go.RowKit

set_option maxHeartbeats 400000 in
theorem between_any (n lo hi : Int) (w : World) :
    Calls Tryz.prog 147 #[.int .i64 n, .int .i64 lo, .int .i64 hi] w fun e w' => e = .returned (.bool (betwB n lo hi)) ∧ w' = w := by
  go_enter Tryz.func147, Tryz.ntmps147
  go_wp2
  all_goals go_ret
  all_goals exact ⟨by simp [betwB]; omega, rfl⟩


/-- the link that link k must rise above. -/
def prevL (kind : Int) (L : List Int) (k : Nat) : Int := if k = 0 then 0 else if kind = 3 ∧ k = 1 then 0 else L.getD (k - 1) 0

theorem pl_next {id kind : Int} {L : List Int} {k : Nat} {r : Int} (hlt : k < L.length) (H : r = linksE id kind k (prevL kind L k) (L.drop k)) (h : 1 ≤ L[k] ∧ L[k] < id) (h2 : prevL kind L k < L[k]) : r = linksE id kind (k + 1) (prevL kind L (k + 1)) (L.drop (k + 1)) := by
  have e : prevL kind L (k + 1) = if kind = 3 ∧ k = 0 then prevL kind L k else L[k] := by
    unfold prevL
    rw [if_neg (by omega), Nat.add_sub_cancel]
    by_cases h3 : kind = 3 ∧ k = 0
    · rw [if_pos h3, if_pos (by omega), if_pos h3.2]
    · rw [if_neg h3, if_neg (by omega)]; simp [hlt]
  rw [H, drop_at hlt, linksE, if_neg (by omega), if_neg (by omega), e]
theorem pl_state {id kind : Int} {L : List Int} {k : Nat} {r : Int} (hlt : k < L.length) (H : r = linksE id kind k (prevL kind L k) (L.drop k)) (h : 1 ≤ L[k] ∧ L[k] < id) (hk : 0 < k) (hn : ¬ (kind = 3 ∧ k = 1)) (h2 : L[k] ≤ L.getD (k - 1) 0) : r = 4 := by
  refine lk_state hlt H h ?_
  rw [prevL, if_neg (by omega), if_neg hn]; exact h2
theorem pl_lt0 {kind : Int} {L : List Int} {k : Nat} {x : Int} (hk : k = 0 ∨ (kind = 3 ∧ k = 1)) (h : 1 ≤ x) : prevL kind L k < x := by
  unfold prevL
  rcases hk with rfl | h3
  · simp; omega
  · rw [if_neg (by omega), if_pos h3]; omega
theorem pl_lt {kind : Int} {L : List Int} {k : Nat} {x : Int} (hk : 0 < k) (hn : ¬ (kind = 3 ∧ k = 1)) (h : L.getD (k - 1) 0 < x) : prevL kind L k < x := by
  rw [prevL, if_neg (by omega), if_neg hn]; exact h
theorem betw_true {x lo hi : Int} (h : lo ≤ x ∧ x ≤ hi) : betwB x lo hi = true := by simp [betwB, h]
theorem betw_false {x lo hi : Int} (h : ¬ (lo ≤ x ∧ x ≤ hi)) : betwB x lo hi = false := by simp only [betwB, decide_eq_false_iff_not]; exact h

/-- the world of the box, some draws later. -/
def SameW (w : World) (id kind : Int) (a : Option Addr) (c : Nat) (L : List Int) (t : ByteArray) (wr : World) : Prop := ∃ n, wr = (w.alloc (.cells #[.int .i64 id, .int .i64 kind, .slice a L.length c, .string t] 58)).drewN n
theorem SameW.drewN {w : World} {id kind : Int} {a : Option Addr} {c : Nat} {L : List Int} {t : ByteArray} {wr : World} (h : SameW w id kind a c L t wr) (m : Nat) : SameW w id kind a c L t (wr.drewN m) := by
  obtain ⟨n, rfl⟩ := h
  exact ⟨n + m, by simp⟩
theorem SameW.c0 {w : World} {id kind : Int} {a : Option Addr} {c : Nat} {L : List Int} {t : ByteArray} {wr : World} (h : SameW w id kind a c L t wr) : wr.cell? ⟨w.heap.size, 0, none⟩ = some (.int .i64 id) := by
  obtain ⟨n, rfl⟩ := h
  simp [go_sem]
theorem SameW.c1 {w : World} {id kind : Int} {a : Option Addr} {c : Nat} {L : List Int} {t : ByteArray} {wr : World} (h : SameW w id kind a c L t wr) : wr.cell? ⟨w.heap.size, 1, none⟩ = some (.int .i64 kind) := by
  obtain ⟨n, rfl⟩ := h
  simp [go_sem]
theorem SameW.c2 {w : World} {id kind : Int} {a : Option Addr} {c : Nat} {L : List Int} {t : ByteArray} {wr : World} (h : SameW w id kind a c L t wr) : wr.cell? ⟨w.heap.size, 2, none⟩ = some (.slice a L.length c) := by
  obtain ⟨n, rfl⟩ := h
  simp [go_sem]
theorem SameW.c3 {w : World} {id kind : Int} {a : Option Addr} {c : Nat} {L : List Int} {t : ByteArray} {wr : World} (h : SameW w id kind a c L t wr) : wr.cell? ⟨w.heap.size, 3, none⟩ = some (.string t) := by
  obtain ⟨n, rfl⟩ := h
  simp [go_sem]
theorem SameW.below {w : World} {id kind : Int} {a : Option Addr} {c : Nat} {L : List Int} {t : ByteArray} {wr : World} (h : SameW w id kind a c L t wr) : Below w.heap.size w wr := by
  obtain ⟨n, rfl⟩ := h
  exact below_drewN (below_alloc _ _) n
theorem SameW.link {w : World} {id kind : Int} {a : Option Addr} {c : Nat} {L : List Int} {t : ByteArray} {wr : World} (hS : SameW w id kind a c L t wr) (h : Holds w a L) {k : Nat} (hlt : k < L.length) :
    ∀ b off, a = some ⟨b, off, none⟩ → wr.cell? ⟨b, off + k, none⟩ = some (.int .i64 (L.getD k 0)) := by
  intro b off e
  obtain ⟨b', off', e', _, hc⟩ := h.below hS.below k hlt
  rw [e] at e'
  cases e'
  exact hc k hlt

set_option maxHeartbeats 1000000 in
theorem checkObjectR_any (id kind : Int) (a : Option Addr) (c : Nat) (L : List Int) (t : ByteArray) (w : World)
    (h : Holds w a L) (l : L.length ≤ 9223372036854775807) :
    Calls Tryz.prog 118 #[.agg #[.int .i64 id, .int .i64 kind, .slice a L.length c, .string t]] w
      fun e w' => e = .returned (.int .i64 (checkE id kind L t.size)) ∧ Below w.heap.size w w' := by
  have h' := h.below (below_alloc w (.cells #[.int .i64 id, .int .i64 kind, .slice a L.length c, .string t] 58))
  have hB := below_alloc w (.cells #[.int .i64 id, .int .i64 kind, .slice a L.length c, .string t] 58)
  go_enter Tryz.func118, Tryz.ntmps118
  go_wp2_with fail
  refine (between_any id 1 99 _).mono ?_
  rintro e w1 ⟨rfl, rfl⟩
  by_cases hid : 1 ≤ id ∧ id ≤ 99
  · rw [betw_true hid]
    go_wp2_with fail
    refine (between_any kind 1 3 _).mono ?_
    rintro e w1 ⟨rfl, rfl⟩
    by_cases hki : 1 ≤ kind ∧ kind ≤ 3
    · rw [betw_true hki]
      by_cases hmany : (4 : Int) < (L.length : Int) ∨ (8 : Int) < (t.size : Int)
      · go_wp2_with fail
        all_goals (go_ret; exact ⟨ret_int (ck_many hid hki hmany).symm, hB⟩)
      · have hfew : (L.length : Int) ≤ 4 ∧ (t.size : Int) ≤ 8 := by omega
        have hf1 := hfew.1
        have hf2 := hfew.2
        have hd1 : decide ((4 : Int) < (L.length : Int)) = false := by simp; omega
        have hd2 : decide ((8 : Int) < (t.size : Int)) = false := by simp; omega
        clear hmany
        go_wp2_with fail
        have S0 : SameW w id kind a c L t (w.alloc (.cells #[.int .i64 id, .int .i64 kind, .slice a L.length c, .string t] 58)) := ⟨0, rfl⟩
        go_loopw [3] (fun i wr => ∃ k : Nat, i = .int .i64 k ∧ k ≤ L.length ∧ Hid (linksE id kind 0 0 L = linksE id kind k (prevL kind L k) (L.drop k)) ∧ SameW w id kind a c L t wr) (fun i _ => L.length - (intOf i).toNat)
        case atStart => exact ⟨0, rfl, Nat.zero_le _, rfl, S0⟩
        case round =>
          clear S0 h' hB
          obtain ⟨k, rfl, hk, H, HW⟩ := hrel
          have q0 := HW.c0
          have q1 := HW.c1
          have q2 := HW.c2
          by_cases hlt : k < L.length
          · have hc := HW.link h hlt
            have hlt' : (k : Int) < (L.length : Int) := by omega
            have hw1 : IntKind.i64.wrap (id - 1) = id - 1 := by simp [IntKind.wrap, IntKind.bits, IntKind.signed]; omega
            obtain ⟨b1, o1, rfl, _, _⟩ := h k hlt
            have hk1 : wr.cell? ⟨b1, o1 + k, none⟩ = some (.int .i64 L[k]) := by have := hc b1 o1 rfl; simpa [hlt] using this
            by_cases hin : 1 ≤ L[k] ∧ L[k] < id
            · have hbt : betwB L[k] 1 (id - 1) = true := betw_true (by omega)
              by_cases h0 : k = 0
              · have hg : decide (0 < k) = false := by simp; omega
                have HH : Hid (linksE id kind 0 0 L = linksE id kind (k + 1) (prevL kind L (k + 1)) (L.drop (k + 1))) := pl_next hlt H.out hin (pl_lt0 (Or.inl h0) hin.1)
                clear h0 hc
                go_wp2
                go_quiet ((go_at_call 147; exact Calls.quiet_of_same (between_any _ _ _ _)))
                go_wp2
                go_quiet (fail)
                go_wp2
                go_roundw
                case rel => exact ⟨k + 1, by go_num, by omega, HH, HW.drewN _⟩
                case measure => simp [intOf]; omega
              · have hg : decide (0 < k) = true := by simp; omega
                have hg' : 0 < k := by omega
                have hp : wr.cell? ⟨b1, o1 + (k - 1), none⟩ = some (.int .i64 (L.getD (k - 1) 0)) := HW.link h (show k - 1 < L.length by omega) b1 o1 rfl
                have hi1 : (0 : Int) ≤ (k : Int) - 1 := by omega
                have hi2 : (k : Int) - 1 < (L.length : Int) := by omega
                by_cases h3 : kind = 3
                · have e3 : (kind == 3) = true := by simpa using h3
                  by_cases h1 : k = 1
                  · have e1 : ((k : Int) == 1) = true := by simp; omega
                    have HH : Hid (linksE id kind 0 0 L = linksE id kind (k + 1) (prevL kind L (k + 1)) (L.drop (k + 1))) := pl_next hlt H.out hin (pl_lt0 (Or.inr ⟨h3, h1⟩) hin.1)
                    clear h0 hc h3 h1
                    go_wp2
                    go_quiet ((go_at_call 147; exact Calls.quiet_of_same (between_any _ _ _ _)))
                    go_wp2
                    go_quiet (fail)
                    go_wp2
                    go_roundw
                    case rel => exact ⟨k + 1, by go_num, by omega, HH, HW.drewN _⟩
                    case measure => simp [intOf]; omega
                  · have e1 : ((k : Int) == 1) = false := by simp; omega
                    have hn : ¬ (kind = 3 ∧ k = 1) := fun e => h1 e.2
                    generalize hy : L.getD (k - 1) 0 = y at *
                    by_cases hy2 : L[k] ≤ y
                    · have e4 : linksE id kind 0 0 L = 4 := pl_state hlt H.out hin hg' hn (by rw [hy]; exact hy2)
                      have HR : Hid (checkE id kind L t.size = 4) := by unfold Hid; rw [ck_links hid hki hfew (by rw [e4]; decide), e4]
                      clear hc e4 hy h3
                      go_wp2
                      go_quiet ((go_at_call 147; exact Calls.quiet_of_same (between_any _ _ _ _)))
                      go_wp2
                      go_quiet (fail)
                      go_wp2
                      go_ret
                      exact ⟨ret_int HR.out.symm, ((HW.drewN _).drewN _).below⟩
                    · have HH : Hid (linksE id kind 0 0 L = linksE id kind (k + 1) (prevL kind L (k + 1)) (L.drop (k + 1))) := pl_next hlt H.out hin (pl_lt hg' hn (by rw [hy]; omega))
                      clear hc hy h3
                      go_wp2
                      go_quiet ((go_at_call 147; exact Calls.quiet_of_same (between_any _ _ _ _)))
                      go_wp2
                      go_quiet (fail)
                      go_wp2
                      go_roundw
                      case rel => exact ⟨k + 1, by go_num, by omega, HH, HW.drewN _⟩
                      case measure => simp [intOf]; omega
                · have e3 : (kind == 3) = false := by simpa using h3
                  have hn : ¬ (kind = 3 ∧ k = 1) := fun e => h3 e.1
                  generalize hy : L.getD (k - 1) 0 = y at *
                  by_cases hy2 : L[k] ≤ y
                  · have e4 : linksE id kind 0 0 L = 4 := pl_state hlt H.out hin hg' hn (by rw [hy]; exact hy2)
                    have HR : Hid (checkE id kind L t.size = 4) := by unfold Hid; rw [ck_links hid hki hfew (by rw [e4]; decide), e4]
                    clear hc e4 hy h3
                    go_wp2
                    go_quiet ((go_at_call 147; exact Calls.quiet_of_same (between_any _ _ _ _)))
                    go_wp2
                    go_quiet (fail)
                    go_wp2
                    go_ret
                    exact ⟨ret_int HR.out.symm, ((HW.drewN _).drewN _).below⟩
                  · have HH : Hid (linksE id kind 0 0 L = linksE id kind (k + 1) (prevL kind L (k + 1)) (L.drop (k + 1))) := pl_next hlt H.out hin (pl_lt hg' hn (by rw [hy]; omega))
                    clear hc hy h3
                    go_wp2
                    go_quiet ((go_at_call 147; exact Calls.quiet_of_same (between_any _ _ _ _)))
                    go_wp2
                    go_quiet (fail)
                    go_wp2
                    go_roundw
                    case rel => exact ⟨k + 1, by go_num, by omega, HH, HW.drewN _⟩
                    case measure => simp [intOf]; omega
            · have hbf : betwB L[k] 1 (id - 1) = false := betw_false (by omega)
              have e4 : linksE id kind 0 0 L = 3 := lk_range hlt H.out (by omega)
              have HR : Hid (checkE id kind L t.size = 3) := by unfold Hid; rw [ck_links hid hki hfew (by rw [e4]; decide), e4]
              clear hc e4
              go_wp2
              go_quiet ((go_at_call 147; exact Calls.quiet_of_same (between_any _ _ _ _)))
              go_wp2
              go_ret
              exact ⟨ret_int HR.out.symm, (HW.drewN _).below⟩
          · have e4 : linksE id kind 0 0 L = 0 := lk_end hk hlt H.out
            have HZ : Hid (linksE id kind 0 0 L = 0) := e4
            have q3 := HW.c3
            clear e4 H
            by_cases k1 : kind = 1
            · subst k1
              cases L with
              | nil =>
                go_wp2
                go_ret
                exact ⟨ret_int (ck_ok hid hki hfew HZ.out (by simp)).symm, HW.below⟩
              | cons x xs =>
                have hge : ¬ ((k : Int) < (xs.length : Int) + 1) := by simp at hlt; omega
                go_wp2
                go_ret
                exact ⟨ret_int (ck_form hid hki hfew HZ.out (by simp)).symm, HW.below⟩
            · by_cases k3 : kind = 3
              · subst k3
                cases L with
                | nil =>
                  go_wp2
                  go_ret
                  exact ⟨ret_int (ck_form hid hki hfew HZ.out (by simp)).symm, HW.below⟩
                | cons x xs =>
                  have hne : (((x :: xs).length : Int) == 0) = false := by simp; omega
                  have hne' : ((xs.length : Int) + 1 == 0) = false := by simp; omega
                  have hge : ¬ ((k : Int) < (xs.length : Int) + 1) := by simp at hlt; omega
                  go_wp2
                  go_ret
                  exact ⟨ret_int (ck_ok hid hki hfew HZ.out (by simp)).symm, HW.below⟩
              · have e1 : (kind == 1) = false := by simpa using k1
                have e3 : (kind == 3) = false := by simpa using k3
                go_wp2
                go_ret
                exact ⟨ret_int (ck_ok hid hki hfew HZ.out (by omega)).symm, HW.below⟩
    · rw [betw_false hki]
      go_wp2
      go_ret
      exact ⟨ret_int (ck_kind hid (by omega)).symm, hB⟩
  · rw [betw_false hid]
    go_wp2
    go_ret
    exact ⟨ret_int (ck_range (by omega)).symm, hB⟩
end

section
open Go.RowKit
set_option maxRecDepth 100000

/-! What the reference's own Check of refs tells, as plain facts. -/
/-- the kind of what has an id; 0: there is none. -/
def kindW : List Ob → Int → Int
  | [], _ => 0
  | o :: r, x => if o.id = x then o.kind else kindW r x
theorem kindW_drop {l : List Ob} {k : Nat} (x : Int) (hk : k < l.length) : kindW (l.drop k) x = if l[k].id = x then l[k].kind else kindW (l.drop (k + 1)) x := by
  rw [List.drop_eq_getElem_cons hk, kindW]
theorem kindW_at {x : Int} : ∀ {l : List Ob}, kindW l x ≠ 0 → ∃ i, ∃ h : i < l.length, l[i].id = x ∧ (∀ j (hj : j < l.length), j < i → l[j].id ≠ x) ∧ kindW l x = l[i].kind
  | [], h => absurd rfl h
  | o :: r, h => by
    unfold kindW at h ⊢
    by_cases c : o.id = x
    · rw [if_pos c]
      exact ⟨0, by simp, c, fun j _ hj => absurd hj (Nat.not_lt_zero j), rfl⟩
    · rw [if_neg c] at h ⊢
      obtain ⟨i, hi, e1, e2, e3⟩ := kindW_at h
      refine ⟨i + 1, by simp; omega, e1, fun j hj hji => ?_, e3⟩
      cases j with
      | zero => exact c
      | succ j => exact e2 j (by simp at hj; omega) (by omega)
theorem kindW_pre {l : List Ob} {n : Nat} {x : Int} (h : kindW (l.take n) x ≠ 0) : ∃ i, ∃ h : i < l.length, i < n ∧ placeI l x = i ∧ kindAt l x = l[i].kind ∧ kindW (l.take n) x = l[i].kind := by
  obtain ⟨i, hi, e1, e2, e3⟩ := kindW_at h
  rw [List.length_take] at hi
  have hil : i < l.length := by omega
  rw [List.getElem_take] at e1 e3
  have hp : placeI l x = i := findIdx_hit hil (fun j hj hji => by
    have := e2 j (by rw [List.length_take]; omega) hji
    rw [List.getElem_take] at this
    simpa using this) (by simpa using e1)
  refine ⟨i, hil, by omega, hp, ?_, e3⟩
  unfold kindAt
  rw [hp]
  simp [hil]

def LnB (kind : Int) (k : Nat) (tk : Int) : Prop := ¬ (kind = 2 ∧ tk = 3) ∧ ¬ (kind = 3 ∧ k = 0 ∧ tk ≠ 2) ∧ ¬ (kind = 3 ∧ 0 < k ∧ tk ≠ 3)
def LnOk (l : List Ob) (i : Nat) (x : Ob) (n : Nat) : Prop := ∀ j (_ : j < x.links.length), j < n → kindW (l.take i) x.links[j] ≠ 0 ∧ LnB x.kind j (kindW (l.take i) x.links[j])
theorem LnOk.zero {l : List Ob} {i : Nat} {x : Ob} : LnOk l i x 0 := fun _ _ h => absurd h (Nat.not_lt_zero _)
theorem LnOk.next {l : List Ob} {i : Nat} {x : Ob} {k : Nat} (h : LnOk l i x k) (hk : k < x.links.length) (h1 : kindW (l.take i) x.links[k] ≠ 0) (h2 : LnB x.kind k (kindW (l.take i) x.links[k])) : LnOk l i x (k + 1) := fun j hj hjk => by
  rcases Nat.lt_or_ge j k with c | c
  · exact h j hj c
  · obtain rfl : j = k := by omega
    exact ⟨h1, h2⟩
def StOk (l : List Ob) (k : Nat) : Prop := ∀ i (_ : i < l.length), i < k → l[i].err = 0 ∧ (0 < i → ∀ hp : i - 1 < l.length, (l[i - 1]'hp).id < l[i].id) ∧ LnOk l i l[i] l[i].links.length
theorem StOk.zero {l : List Ob} : StOk l 0 := fun _ _ h => absurd h (Nat.not_lt_zero _)
theorem StOk.next {l : List Ob} {k : Nat} (h : StOk l k) (hk : k < l.length) (h1 : l[k].err = 0) (h2 : 0 < k → ∀ hp : k - 1 < l.length, (l[k - 1]'hp).id < l[k].id) (h3 : LnOk l k l[k] l[k].links.length) : StOk l (k + 1) := fun j hj hjk => by
  rcases Nat.lt_or_ge j k with c | c
  · exact h j hj c
  · obtain rfl : j = k := by omega
    exact ⟨h1, h2, h3⟩
theorem may_ok {kind : Int} {k : Nat} {tk : Int} (h1 : 1 ≤ kind) (h2 : kind ≤ 3) (hne : kind ≠ 1) (h3 : 1 ≤ tk) (h4 : tk ≤ 3) (h : LnB kind k tk) : mayB kind ((0 + k : Nat) : Int) tk = true := by
  obtain ⟨a, b, c⟩ := h
  unfold mayB
  by_cases e2 : kind = 2
  · rw [if_pos e2]
    have : tk = 1 ∨ tk = 2 := by omega
    rcases this with q | q <;> simp [q]
  · have e3 : kind = 3 := by omega
    rw [if_neg e2]
    by_cases e0 : k = 0
    · rw [if_pos ⟨e3, by omega⟩]
      have : tk = 2 := Classical.byContradiction fun q => b ⟨e3, e0, q⟩
      simp [this]
    · rw [if_neg (by omega), if_pos e3]
      have : tk = 3 := Classical.byContradiction fun q => c ⟨e3, by omega, q⟩
      simp [this]
theorem checkS_ok {l : List Ob} (h40 : (l.length : Int) ≤ 40) (h : StOk l l.length) : checkS l = 0 := by
  refine checkS_iff.2 ⟨by omega, fun x hx => ?_, ?_⟩
  · obtain ⟨i, hi, rfl⟩ := List.getElem_of_mem hx
    obtain ⟨h1, _, h3⟩ := h i hi hi
    refine ⟨h1, (linkS_iff _ 0).2 fun j hj => ?_⟩
    obtain ⟨k1, k2⟩ := h3 j hj hj
    obtain ⟨p, hp, hpi, e1, e2, e3⟩ := kindW_pre k1
    have hk := (checkE_zero h1).2.1
    have hkp := (checkE_zero (h p hp hp).1).2.1
    have hn := (checkE_zero h1).2.2.2.2.2
    rw [e3] at k2
    rw [e1, e2]
    exact ⟨by omega, may_ok hk.1 hk.2 (fun e => hn (.inl ⟨e, by omega⟩)) hkp.1 hkp.2 k2⟩
  · refine List.pairwise_iff_getElem.2 ?_
    have key : ∀ d i (hi : i + d + 1 < l.length), l[i].id < l[i + d + 1].id := by
      intro d
      induction d with
      | zero => intro i hi; have := (h (i + 1) hi hi).2.1 (by omega) (by omega); simpa only [Nat.add_sub_cancel] using this
      | succ d ih =>
        intro i hi
        have h1 := ih i (by omega)
        have h2 := (h (i + d + 1 + 1) hi hi).2.1 (by omega) (by omega)
        simp only [Nat.add_sub_cancel] at h2
        exact Int.lt_trans h1 h2
    intro i j hi hj hij
    have := key (j - i - 1) i (by omega)
    have e : i + (j - i - 1) + 1 = j := by omega
    simpa only [e] using this
end

section
open Go.RowKit

set_option maxHeartbeats 800000 in
theorem kindOf_any (a : Option Addr) (c : Nat) (l : List Ob) (id : Int) (w : World) (h : HoldsS w a l) (hl : l.length ≤ 9223372036854775807) :
    Calls Tryz.prog 119 #[.slice a l.length c, .int .i64 id] w fun e w' => e = .returned (.int .i64 (kindW l id)) ∧ w' = w := by
  go_enter Tryz.func119, Tryz.ntmps119
  go_wp2
  go_loop [5] (fun i => ∃ k : Nat, i = .int .i64 k ∧ k ≤ l.length ∧ Hid (kindW l id = kindW (l.drop k) id)) (fun i => l.length - (intOf i).toNat)
  case atStart => exact ⟨0, rfl, Nat.zero_le _, rfl⟩
  case round =>
    obtain ⟨k, rfl, hk, H⟩ := hrel
    by_cases hlt : k < l.length
    · obtain ⟨b, off, rfl, hb, hc⟩ := h k hlt
      obtain ⟨sa, sc, x0, x1, _⟩ := hc k hlt
      clear hc
      by_cases hq : l[k].id = id
      · have HR : Hid (kindW l id = l[k].kind) := H.out.trans ((kindW_drop id hlt).trans (if_pos hq))
        have hq' : (l[k].id == id) = true := by simpa using hq
        clear hq
        go_wp2
        go_ret
        exact ⟨ret_int HR.out.symm, rfl⟩
      · have HN : Hid (kindW l id = kindW (l.drop (k + 1)) id) := H.out.trans ((kindW_drop id hlt).trans (if_neg hq))
        have hq' : (l[k].id == id) = false := by simpa using hq
        clear hq
        go_wp2
        go_round
        case rel => exact ⟨k + 1, by go_num, by omega, HN⟩
        case measure => simp [intOf]; omega
    · have HR : Hid (kindW l id = 0) := by unfold Hid; rw [H.out, List.drop_of_length_le (by omega)]; rfl
      go_wp2
      go_ret
      exact ⟨ret_int HR.out.symm, rfl⟩
theorem kindOf_take (a : Option Addr) (c : Nat) (l : List Ob) (k : Nat) (hk : k ≤ l.length) (id : Int) (w : World) (h : HoldsS w a l) (hl : l.length ≤ 9223372036854775807) :
    Calls Tryz.prog 119 #[.slice a k c, .int .i64 id] w fun e w' => e = .returned (.int .i64 (kindW (l.take k) id)) ∧ w' = w := by
  have := kindOf_any a c (l.take k) id w (holds_take h k) (by rw [List.length_take]; omega)
  rwa [List.length_take, Nat.min_eq_left hk] at this
def commitW (l : List Ob) (id : Int) : Int := if kindW l id = 0 then 5 else if kindW l id ≠ 3 then 7 else 0
theorem commitW_zero {l : List Ob} {id : Int} (h : commitW l id = 0) : kindW l id = 3 := by
  unfold commitW at h
  by_cases h0 : kindW l id = 0
  · rw [if_pos h0] at h; cases h
  · rw [if_neg h0] at h
    exact Classical.byContradiction fun q => by rw [if_pos q] at h; cases h
set_option maxHeartbeats 400000 in
theorem commitR_any (a : Option Addr) (c : Nat) (l : List Ob) (id : Int) (w : World) (h : HoldsS w a l) (hl : l.length ≤ 9223372036854775807) :
    Calls Tryz.prog 121 #[.slice a l.length c, .int .i64 id] w fun e w' => e = .returned (.int .i64 (commitW l id)) ∧ w' = w := by
  go_enter Tryz.func121, Tryz.ntmps121
  go_wp2_with fail
  refine (kindOf_any a c l id w h hl).mono ?_
  rintro e w1 ⟨rfl, rfl⟩
  by_cases h0 : kindW l id = 0
  · have HR : Hid (commitW l id = 5) := by unfold Hid commitW; rw [if_pos h0]
    rw [h0]
    clear h0
    go_wp2
    go_ret
    exact ⟨ret_int HR.out.symm, rfl⟩
  · by_cases h3 : kindW l id = 3
    · have HR : Hid (commitW l id = 0) := by unfold Hid commitW; rw [if_neg h0, if_neg (fun e => e h3)]
      rw [h3]
      clear h0 h3
      go_wp2
      go_ret
      exact ⟨ret_int HR.out.symm, rfl⟩
    · have HR : Hid (commitW l id = 7) := by unfold Hid commitW; rw [if_neg h0, if_pos h3]
      have z1 : (kindW l id == 0) = false := by simpa using h0
      have z2 : (kindW l id != 3) = true := by simpa using h3
      clear h0 h3
      go_wp2
      go_ret
      exact ⟨ret_int HR.out.symm, rfl⟩
end

section
open Go.RowKit
set_option maxRecDepth 100000

/-- some draws later. -/
def Dr (w w' : World) : Prop := ∃ n, w' = w.drewN n
theorem Dr.refl (w : World) : Dr w w := ⟨0, rfl⟩
theorem Dr.drewN {w w' : World} (h : Dr w w') (m : Nat) : Dr w (w'.drewN m) := by
  obtain ⟨n, rfl⟩ := h
  exact ⟨n + m, by simp⟩
theorem Dr.below {w w' : World} (h : Dr w w') : Below w.heap.size w w' := by
  obtain ⟨n, rfl⟩ := h
  exact below_drewN (Below.refl _ _) n

set_option maxHeartbeats 8000000 in
theorem checkStoreR_any (a : Option Addr) (c : Nat) (l : List Ob) (w : World) (h : HoldsS w a l) (hl : l.length ≤ 9223372036854775807) (hlc : l.length ≤ c) :
    Calls Tryz.prog 67 #[.slice a l.length c] w fun e w' => (∃ r, e = .returned (.int .i64 r) ∧ (r = 0 → checkS l = 0)) ∧ Below w.heap.size w w' := by
  go_enter Tryz.func67, Tryz.ntmps67
  by_cases h40 : (40 : Int) < (l.length : Int)
  · go_wp2
    go_ret
    exact ⟨⟨_, rfl, fun e => by cases e⟩, Below.refl _ _⟩
  have h40' : (l.length : Int) ≤ 40 := by omega
  go_wp2
  go_loopw [3] (fun i wr => ∃ k : Nat, i = .int .i64 k ∧ k ≤ l.length ∧ Below w.heap.size w wr ∧ Hid (StOk l k)) (fun i _ => l.length - (intOf i).toNat)
  case atStart => exact ⟨0, rfl, Nat.zero_le _, Below.refl _ _, StOk.zero⟩
  case round =>
    obtain ⟨k, rfl, hk, hB, H⟩ := hrel
    by_cases hlt : k < l.length
    case neg =>
      have HR : Hid (checkS l = 0) := by
        obtain rfl : k = l.length := by omega
        exact checkS_ok h40' H.out
      go_wp2
      go_ret
      exact ⟨⟨_, rfl, fun _ => HR.out⟩, hB⟩
    obtain ⟨b, off, rfl, hb, hc⟩ := (h.below hB) k hlt
    obtain ⟨sa, sc, x0, x1, x2, x3, x4, x5⟩ := hc k hlt
    have hlt' : (k : Int) < (l.length : Int) := by omega
    have hkc : (k : Int) ≤ (c : Int) := by omega
    have hA := below_alloc wr (.cells #[.int .i64 l[k].id, .int .i64 l[k].kind, .slice sa l[k].links.length sc, .string l[k].text] 58)
    have C := Cells4.new wr (.int .i64 l[k].id) (.int .i64 l[k].kind) (.slice sa l[k].links.length sc) (.string l[k].text) 58
    have hBA := hB.trans (hA.mono hB.size)
    have hLA := x4.below hA
    clear hc
    go_wp2_with fail
    refine (checkObjectR_any l[k].id l[k].kind sa sc l[k].links l[k].text _ hLA x5).mono ?_
    rintro e w1 ⟨rfl, hb1⟩
    have C1 := C.below hb1 C.lt
    have hB1 := hBA.trans (hb1.mono hBA.size)
    have hL1 := hLA.below hb1
    have hS1 := h.below hB1
    clear hb1 C hA hBA hLA x0 x1 x2 x3 x4 hb
    obtain ⟨B, hBd⟩ : ∃ B, B = wr.heap.size := ⟨_, rfl⟩
    rw [← hBd] at C1 ⊢
    clear hBd
    obtain ⟨c0, c1, c2, c3, -, -, -, -, cl⟩ := C1
    by_cases he : l[k].err = 0
    case neg =>
      have z1 : (checkE l[k].id l[k].kind l[k].links l[k].text.size != 0) = true := by simpa using he
      have HN : Hid (¬ checkE l[k].id l[k].kind l[k].links l[k].text.size = 0) := he
      clear he
      go_wp2
      go_ret
      exact ⟨⟨_, rfl, fun e => absurd e HN.out⟩, hB1⟩
    have HE : Hid (l[k].err = 0) := he
    rw [show checkE l[k].id l[k].kind l[k].links l[k].text.size = 0 from he]
    clear he
    by_cases hk0 : k = 0
    case pos =>
      have g0 : decide (0 < k) = false := by simp; omega
      have HP : Hid (0 < k → ∀ hp : k - 1 < l.length, (l[k - 1]'hp).id < l[k].id) := fun e => by omega
      clear hk0
      go_wp2
      go_quiet (fail)
      go_wp2
      go_loopw [6] (fun i wr => ∃ t : Nat, i = .int .i64 t ∧ t ≤ l[k].links.length ∧ Dr w1 wr ∧ Hid (LnOk l k l[k] t)) (fun i _ => l[k].links.length - (intOf i).toNat)
      case atStart => exact ⟨0, rfl, Nat.zero_le _, ⟨_, rfl⟩, LnOk.zero⟩
      case round =>
        obtain ⟨t, rfl, ht, HW, HL⟩ := hrel
        have hd := HW.below
        have d1 := (hd.cell (p := ⟨B, 1, none⟩) cl).trans c1
        have d2 := (hd.cell (p := ⟨B, 2, none⟩) cl).trans c2
        by_cases htl : t < l[k].links.length
        case neg =>
          have HN : Hid (StOk l (k + 1)) := StOk.next H.out hlt HE.out HP.out (by
            have e : t = l[k].links.length := by omega
            rw [← e]; exact HL.out)
          go_wp2
          go_roundw
          case rel => exact ⟨k + 1, by go_num, by omega, hB1.trans (hd.mono hB1.size), HN⟩
          case measure => simp [intOf]; omega
        have hS2 := hS1.below hd
        have hB2 := hB1.trans (hd.mono hB1.size)
        obtain ⟨lb, lo, rfl, hlb, hlk⟩ := (hL1.below hd) t htl
        have hx : wr.cell? ⟨lb, lo + t, none⟩ = some (.int .i64 l[k].links[t]) := by rw [hlk t htl]; simp [htl]
        have htl' : (t : Int) < (l[k].links.length : Int) := by omega
        have hkk : k ≤ l.length := by omega
        have kq : ∀ n, Calls Tryz.prog 119 #[.slice (some ⟨b, off, none⟩) k c, .int .i64 l[k].links[t]] (wr.drewN n) fun e w' => e = .returned (.int .i64 (kindW (l.take k) l[k].links[t])) ∧ w' = wr.drewN n := fun n => kindOf_take _ c l k hkk _ _ (hS2.below (below_drewN (Below.refl _ _) n)) hl
        obtain ⟨q, hq⟩ : ∃ q, q = kindW (l.take k) l[k].links[t] := ⟨_, rfl⟩
        rw [← hq] at kq
        have HQ : Hid (q = kindW (l.take k) l[k].links[t]) := hq
        clear hq hlk hS1
        go_wp2
        go_quiet ((go_at_call 119; exact Calls.quiet_of_same (kq _)))
        by_cases q0 : q = 0
        case pos =>
          have zq : (q == 0) = true := by simpa using q0
          clear q0
          go_wp2
          go_ret
          exact ⟨⟨_, rfl, fun e => by cases e⟩, hB2.trans ((below_drewN (Below.refl _ _) _).mono hB2.size)⟩
        have zq : (q == 0) = false := by simpa using q0
        have HNZ : Hid (q ≠ 0) := q0
        clear q0
        by_cases k2 : l[k].kind = 2
        case pos =>
          have e2 : (l[k].kind == 2) = true := by simpa using k2
          have e3 : (l[k].kind == 3) = false := by rw [k2]; rfl
          by_cases q3 : q = 3
          case pos =>
            have f3 : (q == 3) = true := by simpa using q3
            clear q3 k2
            go_wp2
            go_ret
            exact ⟨⟨_, rfl, fun e => by cases e⟩, hB2.trans ((below_drewN (Below.refl _ _) _).mono hB2.size)⟩
          have f3 : (q == 3) = false := by simpa using q3
          have HLN : Hid (LnB l[k].kind t q) := ⟨fun e => q3 e.2, fun e => by rw [k2] at e; exact absurd e.1 (by decide), fun e => by rw [k2] at e; exact absurd e.1 (by decide)⟩
          have HN : Hid (LnOk l k l[k] (t + 1)) := HL.out.next htl (by rw [← HQ.out]; exact HNZ.out) (by rw [← HQ.out]; exact HLN.out)
          clear q3 k2
          go_wp2
          go_roundw
          case rel => exact ⟨t + 1, by go_num, by omega, HW.drewN _, HN⟩
          case measure => simp [intOf]; omega
        have e2 : (l[k].kind == 2) = false := by simpa using k2
        by_cases k3 : l[k].kind = 3
        case neg =>
          have e3 : (l[k].kind == 3) = false := by simpa using k3
          have HLN : Hid (LnB l[k].kind t q) := ⟨fun e => k2 e.1, fun e => k3 e.1, fun e => k3 e.1⟩
          have HN : Hid (LnOk l k l[k] (t + 1)) := HL.out.next htl (by rw [← HQ.out]; exact HNZ.out) (by rw [← HQ.out]; exact HLN.out)
          clear k2 k3
          go_wp2
          go_roundw
          case rel => exact ⟨t + 1, by go_num, by omega, HW.drewN _, HN⟩
          case measure => simp [intOf]; omega
        have e3 : (l[k].kind == 3) = true := by simpa using k3
        by_cases t0 : t = 0
        case pos =>
          have g0 : ((t : Int) == 0) = true := by simp; omega
          have g1 : decide (0 < t) = false := by simp; omega
          by_cases q2 : q = 2
          case neg =>
            have f2 : (q != 2) = true := by simpa using q2
            clear q2 k2 k3 t0
            go_wp2
            go_ret
            exact ⟨⟨_, rfl, fun e => by cases e⟩, hB2.trans ((below_drewN (Below.refl _ _) _).mono hB2.size)⟩
          have f2 : (q != 2) = false := by simpa using q2
          have HLN : Hid (LnB l[k].kind t q) := ⟨fun e => k2 e.1, fun e => e.2.2 q2, fun e => by omega⟩
          have HN : Hid (LnOk l k l[k] (t + 1)) := HL.out.next htl (by rw [← HQ.out]; exact HNZ.out) (by rw [← HQ.out]; exact HLN.out)
          clear q2 k2 k3 t0
          go_wp2
          go_roundw
          case rel => exact ⟨t + 1, by go_num, by omega, HW.drewN _, HN⟩
          case measure => simp [intOf]; omega
        have g0 : ((t : Int) == 0) = false := by simp; omega
        have g1 : decide (0 < t) = true := by simp; omega
        have g1' : 0 < t := by omega
        by_cases q3 : q = 3
        case neg =>
          have f3 : (q != 3) = true := by simpa using q3
          clear q3 k2 k3 t0
          go_wp2
          go_ret
          exact ⟨⟨_, rfl, fun e => by cases e⟩, hB2.trans ((below_drewN (Below.refl _ _) _).mono hB2.size)⟩
        have f3 : (q != 3) = false := by simpa using q3
        have HLN : Hid (LnB l[k].kind t q) := ⟨fun e => k2 e.1, fun e => t0 e.2.1, fun e => e.2.2 q3⟩
        have HN : Hid (LnOk l k l[k] (t + 1)) := HL.out.next htl (by rw [← HQ.out]; exact HNZ.out) (by rw [← HQ.out]; exact HLN.out)
        clear q3 k2 k3 t0
        go_wp2
        go_roundw
        case rel => exact ⟨t + 1, by go_num, by omega, HW.drewN _, HN⟩
        case measure => simp [intOf]; omega
    have g0 : decide (0 < k) = true := by simp; omega
    have g0' : 0 < k := by omega
    have hp1 : (k : Int) - 1 < (l.length : Int) := by omega
    have hp0 : (0 : Int) ≤ (k : Int) - 1 := by omega
    have hkl : k - 1 < l.length := by omega
    have hp : w1.cell? ⟨b, off + (k - 1) * 4, none⟩ = some (.int .i64 (l[k - 1]'hkl).id) := by
      obtain ⟨b', off', e, _, hc⟩ := hS1 (k - 1) hkl
      cases e
      obtain ⟨_, _, y0, _⟩ := hc (k - 1) hkl
      exact y0
    obtain ⟨y, hy⟩ : ∃ y, y = (l[k - 1]'hkl).id := ⟨_, rfl⟩
    rw [← hy] at hp
    by_cases hle : l[k].id ≤ y
    case pos =>
      clear hk0 hy
      go_wp2
      go_quiet (fail)
      go_wp2
      go_ret
      exact ⟨⟨_, rfl, fun e => by cases e⟩, hB1.trans ((below_drewN (Below.refl _ _) _).mono hB1.size)⟩
    have HP : Hid (0 < k → ∀ hp : k - 1 < l.length, (l[k - 1]'hp).id < l[k].id) := fun _ _ => by rw [← hy]; omega
    clear hk0 hy
    go_wp2
    go_quiet (fail)
    go_wp2
    go_loopw [6] (fun i wr => ∃ t : Nat, i = .int .i64 t ∧ t ≤ l[k].links.length ∧ Dr w1 wr ∧ Hid (LnOk l k l[k] t)) (fun i _ => l[k].links.length - (intOf i).toNat)
    case atStart => exact ⟨0, rfl, Nat.zero_le _, ⟨_, rfl⟩, LnOk.zero⟩
    case round =>
      obtain ⟨t, rfl, ht, HW, HL⟩ := hrel
      have hd := HW.below
      have d1 := (hd.cell (p := ⟨B, 1, none⟩) cl).trans c1
      have d2 := (hd.cell (p := ⟨B, 2, none⟩) cl).trans c2
      by_cases htl : t < l[k].links.length
      case neg =>
        have HN : Hid (StOk l (k + 1)) := StOk.next H.out hlt HE.out HP.out (by
          have e : t = l[k].links.length := by omega
          rw [← e]; exact HL.out)
        go_wp2
        go_roundw
        case rel => exact ⟨k + 1, by go_num, by omega, hB1.trans (hd.mono hB1.size), HN⟩
        case measure => simp [intOf]; omega
      have hS2 := hS1.below hd
      have hB2 := hB1.trans (hd.mono hB1.size)
      obtain ⟨lb, lo, rfl, hlb, hlk⟩ := (hL1.below hd) t htl
      have hx : wr.cell? ⟨lb, lo + t, none⟩ = some (.int .i64 l[k].links[t]) := by rw [hlk t htl]; simp [htl]
      have htl' : (t : Int) < (l[k].links.length : Int) := by omega
      have hkk : k ≤ l.length := by omega
      have kq : ∀ n, Calls Tryz.prog 119 #[.slice (some ⟨b, off, none⟩) k c, .int .i64 l[k].links[t]] (wr.drewN n) fun e w' => e = .returned (.int .i64 (kindW (l.take k) l[k].links[t])) ∧ w' = wr.drewN n := fun n => kindOf_take _ c l k hkk _ _ (hS2.below (below_drewN (Below.refl _ _) n)) hl
      obtain ⟨q, hq⟩ : ∃ q, q = kindW (l.take k) l[k].links[t] := ⟨_, rfl⟩
      rw [← hq] at kq
      have HQ : Hid (q = kindW (l.take k) l[k].links[t]) := hq
      clear hq hlk hS1
      go_wp2
      go_quiet ((go_at_call 119; exact Calls.quiet_of_same (kq _)))
      by_cases q0 : q = 0
      case pos =>
        have zq : (q == 0) = true := by simpa using q0
        clear q0
        go_wp2
        go_ret
        exact ⟨⟨_, rfl, fun e => by cases e⟩, hB2.trans ((below_drewN (Below.refl _ _) _).mono hB2.size)⟩
      have zq : (q == 0) = false := by simpa using q0
      have HNZ : Hid (q ≠ 0) := q0
      clear q0
      by_cases k2 : l[k].kind = 2
      case pos =>
        have e2 : (l[k].kind == 2) = true := by simpa using k2
        have e3 : (l[k].kind == 3) = false := by rw [k2]; rfl
        by_cases q3 : q = 3
        case pos =>
          have f3 : (q == 3) = true := by simpa using q3
          clear q3 k2
          go_wp2
          go_ret
          exact ⟨⟨_, rfl, fun e => by cases e⟩, hB2.trans ((below_drewN (Below.refl _ _) _).mono hB2.size)⟩
        have f3 : (q == 3) = false := by simpa using q3
        have HLN : Hid (LnB l[k].kind t q) := ⟨fun e => q3 e.2, fun e => by rw [k2] at e; exact absurd e.1 (by decide), fun e => by rw [k2] at e; exact absurd e.1 (by decide)⟩
        have HN : Hid (LnOk l k l[k] (t + 1)) := HL.out.next htl (by rw [← HQ.out]; exact HNZ.out) (by rw [← HQ.out]; exact HLN.out)
        clear q3 k2
        go_wp2
        go_roundw
        case rel => exact ⟨t + 1, by go_num, by omega, HW.drewN _, HN⟩
        case measure => simp [intOf]; omega
      have e2 : (l[k].kind == 2) = false := by simpa using k2
      by_cases k3 : l[k].kind = 3
      case neg =>
        have e3 : (l[k].kind == 3) = false := by simpa using k3
        have HLN : Hid (LnB l[k].kind t q) := ⟨fun e => k2 e.1, fun e => k3 e.1, fun e => k3 e.1⟩
        have HN : Hid (LnOk l k l[k] (t + 1)) := HL.out.next htl (by rw [← HQ.out]; exact HNZ.out) (by rw [← HQ.out]; exact HLN.out)
        clear k2 k3
        go_wp2
        go_roundw
        case rel => exact ⟨t + 1, by go_num, by omega, HW.drewN _, HN⟩
        case measure => simp [intOf]; omega
      have e3 : (l[k].kind == 3) = true := by simpa using k3
      by_cases t0 : t = 0
      case pos =>
        have g0 : ((t : Int) == 0) = true := by simp; omega
        have g1 : decide (0 < t) = false := by simp; omega
        by_cases q2 : q = 2
        case neg =>
          have f2 : (q != 2) = true := by simpa using q2
          clear q2 k2 k3 t0
          go_wp2
          go_ret
          exact ⟨⟨_, rfl, fun e => by cases e⟩, hB2.trans ((below_drewN (Below.refl _ _) _).mono hB2.size)⟩
        have f2 : (q != 2) = false := by simpa using q2
        have HLN : Hid (LnB l[k].kind t q) := ⟨fun e => k2 e.1, fun e => e.2.2 q2, fun e => by omega⟩
        have HN : Hid (LnOk l k l[k] (t + 1)) := HL.out.next htl (by rw [← HQ.out]; exact HNZ.out) (by rw [← HQ.out]; exact HLN.out)
        clear q2 k2 k3 t0
        go_wp2
        go_roundw
        case rel => exact ⟨t + 1, by go_num, by omega, HW.drewN _, HN⟩
        case measure => simp [intOf]; omega
      have g0 : ((t : Int) == 0) = false := by simp; omega
      have g1 : decide (0 < t) = true := by simp; omega
      have g1' : 0 < t := by omega
      by_cases q3 : q = 3
      case neg =>
        have f3 : (q != 3) = true := by simpa using q3
        clear q3 k2 k3 t0
        go_wp2
        go_ret
        exact ⟨⟨_, rfl, fun e => by cases e⟩, hB2.trans ((below_drewN (Below.refl _ _) _).mono hB2.size)⟩
      have f3 : (q != 3) = false := by simpa using q3
      have HLN : Hid (LnB l[k].kind t q) := ⟨fun e => k2 e.1, fun e => t0 e.2.1, fun e => e.2.2 q3⟩
      have HN : Hid (LnOk l k l[k] (t + 1)) := HL.out.next htl (by rw [← HQ.out]; exact HNZ.out) (by rw [← HQ.out]; exact HLN.out)
      clear q3 k2 k3 t0
      go_wp2
      go_roundw
      case rel => exact ⟨t + 1, by go_num, by omega, HW.drewN _, HN⟩
      case measure => simp [intOf]; omega
end

section
open Go.RowKit
set_option maxRecDepth 100000

/-- is a name a place in another one? -/
def isInB (a b : ByteArray) : Bool := if h : a.size < b.size then decide ((b.extract 0 a.size).toList = a.toList) && ((((b[a.size]'h).toNat : Nat) : Int) == 47) else false

set_option maxHeartbeats 1000000 in
theorem isIn_any (a b : ByteArray) (w : World) :
    Calls Tryz.prog 122 #[.string a, .string b] w fun e w' => e = .returned (.bool (isInB a b)) ∧ w' = w := by
  go_enter Tryz.func122, Tryz.ntmps122
  by_cases hs : (a.size : Int) < (b.size : Int)
  case neg =>
    have HR : Hid (isInB a b = false) := by unfold Hid isInB; rw [dif_neg (by omega)]
    go_wp2
    go_ret
    exact ⟨ret_bool HR.out.symm, rfl⟩
  have hs' : a.size < b.size := by omega
  have HR : Hid (isInB a b = (decide ((b.extract 0 a.size).toList = a.toList) && ((((b[a.size]'hs').toNat : Nat) : Int) == 47))) := by unfold Hid isInB; rw [dif_pos hs']
  go_wp2
  · go_ret
    refine ⟨ret_bool ?_, rfl⟩
    rw [HR.out, decide_eq_true ‹(b.extract 0 a.size).toList = a.toList›, Bool.true_and]
  · go_ret
    refine ⟨ret_bool ?_, rfl⟩
    rw [HR.out, decide_eq_false ‹¬ (b.extract 0 a.size).toList = a.toList›, Bool.false_and]

theorem toList_len (s : ByteArray) : s.toList.length = s.size := by rw [ByteArray.toList_eq, Array.length_toList]; rfl
theorem wrap64_byte (b : UInt8) : wrap64 ((b.toNat : Nat) : Int) = ((b.toNat : Nat) : Int) := by
  have := b.toNat_lt
  simp [wrap64]; omega
set_option maxHeartbeats 4000000 in
theorem checkName_any (s : ByteArray) (w : World) :
    Calls Tryz.prog 120 #[.string s] w fun e w' => (∃ r, e = .returned (.int .i64 r)) ∧ w' = w := by
  go_enter Tryz.func120, Tryz.ntmps120
  by_cases h12 : (12 : Int) < (s.size : Int)
  · go_wp2
    go_ret
    exact ⟨⟨_, rfl⟩, rfl⟩
  by_cases h0 : s.size = 0
  · have hE : s.toList.isEmpty = true := by
      have : s.toList.length = 0 := (toList_len s).trans h0
      rw [List.isEmpty_iff]; exact List.eq_nil_of_length_eq_zero this
    have h00 : ¬ 0 < s.size := by omega
    clear h0
    go_wp2
    go_ret
    exact ⟨⟨_, rfl⟩, rfl⟩
  have hE : s.toList.isEmpty = false := by
    cases hc : s.toList.isEmpty with
    | false => rfl
    | true =>
      have : s.toList.length = 0 := by rw [List.isEmpty_iff.1 hc]; rfl
      exact absurd ((toList_len s).symm.trans this) h0
  have hp : 0 < s.size := by omega
  clear h0
  by_cases hf : ((s[0].toNat : Nat) : Int) = 47
  · have hf' : (((s[0].toNat : Nat) : Int) == 47) = true := by simpa using hf
    clear hf
    go_wp2
    go_ret
    exact ⟨⟨_, rfl⟩, rfl⟩
  have hf' : (((s[0].toNat : Nat) : Int) == 47) = false := by simpa using hf
  have HF : Hid (¬ ((s[0].toNat : Nat) : Int) = 47) := hf
  clear hf
  have hl1 : s.size - 1 < s.size := by omega
  have hl2 : (1 : Int) ≤ (s.size : Int) := by omega
  have hl3 : (s.size : Int) - 1 < (s.size : Int) := by omega
  by_cases hl : (((s[s.size - 1]'hl1).toNat : Nat) : Int) = 47
  · have hl' : ((((s[s.size - 1]'hl1).toNat : Nat) : Int) == 47) = true := by simpa using hl
    clear hl
    go_wp2
    go_ret
    exact ⟨⟨_, rfl⟩, rfl⟩
  have hl' : ((((s[s.size - 1]'hl1).toNat : Nat) : Int) == 47) = false := by simpa using hl
  clear hl
  go_wp2
  go_loopw [3] (fun i wr => ∃ k : Nat, i = .int .i64 k ∧ k ≤ s.size ∧ Hid (wr = w)) (fun i _ => s.size - (intOf i).toNat)
  case atStart => exact ⟨0, rfl, Nat.zero_le _, rfl⟩
  case round =>
    obtain ⟨k, rfl, hk, HW⟩ := hrel
    by_cases hlt : k < s.size
    case neg =>
      go_wp2
      go_ret
      exact ⟨⟨_, rfl⟩, HW.out⟩
    have hlt' : (k : Int) < (s.size : Int) := by omega
    have hw : wrap64 ((s[k].toNat : Nat) : Int) = ((s[k].toNat : Nat) : Int) := wrap64_byte s[k]
    obtain ⟨c, hc⟩ : ∃ c : Int, c = wrap64 ((s[k].toNat : Nat) : Int) := ⟨_, rfl⟩
    have HK : Hid (c = 47 → 0 < k) := fun e => by
      rcases Nat.eq_zero_or_pos k with q | q
      · subst q; exact absurd (hw.symm.trans (hc.symm.trans e)) HF.out
      · exact q
    clear hw
    go_wp2_with fail
    rw [← hc]
    clear hc
    refine (between_any c 97 122 wr).mono ?_
    rintro e w1 ⟨rfl, hw1⟩
    rw [hw1]
    clear hw1 w1
    by_cases b1 : 97 ≤ c ∧ c ≤ 122
    · have z1 : betwB c 97 122 = true := betw_true b1
      have f1 : (c == 47) = false := by simp; omega
      clear b1
      go_wp2
      go_roundw
      case rel => exact ⟨k + 1, by go_num, by omega, HW⟩
      case measure => simp [intOf]; omega
    rw [betw_false b1]
    go_wp2_with fail
    refine (between_any c 48 57 wr).mono ?_
    rintro e w1 ⟨rfl, hw1⟩
    rw [hw1]
    clear hw1 w1
    by_cases b2 : 48 ≤ c ∧ c ≤ 57
    · rw [betw_true b2]
      have f1 : (c == 47) = false := by simp; omega
      clear b1 b2
      go_wp2
      go_roundw
      case rel => exact ⟨k + 1, by go_num, by omega, HW⟩
      case measure => simp [intOf]; omega
    rw [betw_false b2]
    by_cases b3 : c = 45
    · have f3 : (c != 45) = false := by simpa using b3
      have f1 : (c == 47) = false := by simp; omega
      clear b1 b2 b3
      go_wp2
      go_roundw
      case rel => exact ⟨k + 1, by go_num, by omega, HW⟩
      case measure => simp [intOf]; omega
    have f3 : (c != 45) = true := by simpa using b3
    by_cases b4 : c = 47
    case neg =>
      have f4 : (c != 47) = true := by simpa using b4
      clear b1 b2 b3 b4
      go_wp2
      go_ret
      exact ⟨⟨_, rfl⟩, HW.out⟩
    have f4 : (c != 47) = false := by simpa using b4
    have f5 : (c == 47) = true := by simpa using b4
    have hk0 : 0 < k := HK.out b4
    have hk1 : (0 : Int) ≤ (k : Int) - 1 := by omega
    have hk2 : (k : Int) - 1 < (s.size : Int) := by omega
    have hk3 : k - 1 < s.size := by omega
    clear b1 b2 b3 b4
    go_wp2
    · go_ret
      exact ⟨⟨_, rfl⟩, HW.out⟩
    · go_roundw
      case rel => exact ⟨k + 1, by go_num, by omega, HW⟩
      case measure => simp [intOf]; omega
end

section
open Go.RowKit
set_option maxRecDepth 100000

theorem commitE_ok {o : List Ob} {id : Int} (h : kindW o id = 3) : commitE o id = 0 := by
  have h' : kindW (o.take o.length) id = 3 := by rwa [List.take_length]
  obtain ⟨i, hi, _, e1, e2, e3⟩ := kindW_pre (n := o.length) (by rw [h']; decide)
  unfold commitE
  rw [e1, if_neg (by omega), e2, ← e3, h']
  rfl
def IdsOk (o : List Ob) (l : List Rf) (k : Nat) : Prop := ∀ i (_ : i < l.length), i < k → kindW o l[i].id = 3
theorem IdsOk.next {o : List Ob} {l : List Rf} {k : Nat} (h : IdsOk o l k) (hk : k < l.length) (h1 : kindW o l[k].id = 3) : IdsOk o l (k + 1) := fun j hj hjk => by
  rcases Nat.lt_or_ge j k with c | c
  · exact h j hj c
  · obtain rfl : j = k := by omega
    exact h1
theorem nameE_pos {s : ByteArray} (h : nameE s = 0) : ltN { data := #[] } s := by
  unfold ltN
  have h0 : s.toList ≠ [] := fun e => by
    have : s = { data := #[] } := by
      cases s with | mk d => cases d with | mk l => simp [ByteArray.toList_eq] at e; subst e; rfl
    subst this
    have h1 : nameE { data := #[] } = 1 := by decide +kernel
    rw [h1] at h
    cases h
  cases hs : s.toList with
  | nil => exact absurd hs h0
  | cons c r => rw [ByteArray.toList_eq]; rfl
theorem refsE_ok {l : List Rf} {o : List Ob} (hs : checkS o = 0) (h8 : l.length ≤ 8) (hn : ∀ r ∈ l, nameE r.name = 0) (hsort : SortR l) (hc : IdsOk o l l.length) (hp : ∀ x ∈ l, ∀ y ∈ l, inPlace x.name y = false) : refsE l o = 0 :=
  refsE_iff.2 ⟨hs, h8, (eachR_iff _ _).2 ⟨fun r hr => ⟨hn r hr, by obtain ⟨i, hi, rfl⟩ := List.getElem_of_mem hr; exact commitE_ok (hc i hi hi), nameE_pos (hn r hr)⟩, hsort⟩, hp⟩
theorem inPlace_in {a : ByteArray} {y : Rf} (h : inPlace a y = true) : isInB a y.name = true := by
  unfold inPlace Lib.hasPrefix at h
  rw [List.isPrefixOf_iff_prefix] at h
  obtain ⟨t, ht⟩ := h
  have e : y.name.toList = a.toList ++ (47 :: t) := by
    have : (a ++ slash).data.toList = a.data.toList ++ [47] := by
      rw [ByteArray.data_append, Array.toList_append]
    rw [this] at ht
    simpa [ByteArray.toList_eq] using ht.symm
  have hs : a.size = a.toList.length := (toList_len a).symm
  have hs2 : y.name.size = y.name.toList.length := (toList_len y.name).symm
  have hlt : a.size < y.name.size := by rw [hs, hs2, e, List.length_append]; simp
  unfold isInB
  rw [dif_pos hlt, Bool.and_eq_true]
  refine ⟨decide_eq_true ?_, ?_⟩
  · have : (y.name.extract 0 a.size).toList = y.name.toList.take a.size := by simp [ByteArray.toList_eq]
    rw [this, e, hs, List.take_left]
  · have h1 : y.name.toList[a.size]? = some 47 := by rw [e, hs]; simp
    have h2 : y.name[a.size] = 47 := by
      rw [ByteArray.toList_eq] at h1
      have hd : a.size < y.name.data.size := hlt
      have h4 : y.name.data[a.size]? = some 47 := by simpa using h1
      rw [Array.getElem?_eq_getElem hd] at h4
      have h3 : y.name.data[a.size] = 47 := Option.some.inj h4
      exact h3
    rw [h2]; rfl
theorem refsE_ok2 {l m : List Rf} {o : List Ob} (hs : checkS o = 0) (hc : checkL l m = 0) (h1 : IdsOk o l l.length) (hp : ∀ x ∈ l, ∀ y ∈ l, isInB x.name y.name = false) : refsE l o = 0 := by
  obtain ⟨q1, _, q3, q4, _⟩ := checkL_zero.1 hc
  refine refsE_ok hs q1 (fun r hr => q3 r (List.mem_append_left _ hr)) q4 h1 fun x hx y hy => ?_
  cases h : inPlace x.name y with
  | false => rfl
  | true => have := inPlace_in h; rw [hp x hx y hy] at this; cases this
theorem refsE_ok3 {l m : List Rf} {o : List Ob} (hs : checkS o = 0) (hc : checkL l m = 0) (h1 : IdsOk o m m.length) (hp : ∀ x ∈ m, ∀ y ∈ m, isInB x.name y.name = false) : refsE m o = 0 := by
  obtain ⟨_, q2, q3, _, q5⟩ := checkL_zero.1 hc
  refine refsE_ok hs q2 (fun r hr => q3 r (List.mem_append_right _ hr)) q5 h1 fun x hx y hy => ?_
  cases h : inPlace x.name y with
  | false => rfl
  | true => have := inPlace_in h; rw [hp x hx y hy] at this; cases this
end

section
open Go.RowKit
set_option maxRecDepth 100000

def ApartN (l : List Rf) (i : Nat) : Prop := ∀ x (hx : x < l.length), x < i → ∀ y (hy : y < l.length), isInB l[x].name l[y].name = false
def ApartM (l : List Rf) (n : ByteArray) (t : Nat) : Prop := ∀ y (hy : y < l.length), y < t → isInB n l[y].name = false
theorem ApartM.next {l : List Rf} {n : ByteArray} {t : Nat} (h : ApartM l n t) (ht : t < l.length) (h1 : isInB n l[t].name = false) : ApartM l n (t + 1) := fun j hj hjk => by
  rcases Nat.lt_or_ge j t with c | c
  · exact h j hj c
  · obtain rfl : j = t := by omega
    exact h1
theorem ApartN.next {l : List Rf} {k : Nat} (h : ApartN l k) (hk : k < l.length) (h1 : ApartM l l[k].name l.length) : ApartN l (k + 1) := fun j hj hjk => by
  rcases Nat.lt_or_ge j k with c | c
  · exact h j hj c
  · obtain rfl : j = k := by omega
    exact fun y hy => h1 y hy hy
theorem apartN_all {l : List Rf} (h : ApartN l l.length) : ∀ x ∈ l, ∀ y ∈ l, isInB x.name y.name = false := fun x hx y hy => by
  obtain ⟨i, hi, rfl⟩ := List.getElem_of_mem hx
  obtain ⟨j, hj, rfl⟩ := List.getElem_of_mem hy
  exact h i hi hi j hj

set_option maxHeartbeats 8000000 in
theorem checkRight_any (a : Option Addr) (c : Nat) (l : List Rf) (ao : Option Addr) (co : Nat) (o : List Ob) (w : World) (h : HoldsR w a l) (hl : l.length ≤ 9223372036854775807) (ho : HoldsS w ao o) (hol : o.length ≤ 9223372036854775807) :
    Calls Tryz.prog 68 #[.slice a l.length c, .slice ao o.length co] w fun e w' => (∃ r, e = .returned (.int .i64 r) ∧ (r = 0 → IdsOk o l l.length ∧ ∀ x ∈ l, ∀ y ∈ l, isInB x.name y.name = false)) ∧ Dr w w' := by
  go_enter Tryz.func68, Tryz.ntmps68
  by_cases h8 : (8 : Int) < (l.length : Int)
  · go_wp2
    go_ret
    exact ⟨⟨_, rfl, fun e => by cases e⟩, Dr.refl _⟩
  have h8' : (l.length : Int) ≤ 8 := by omega
  go_wp2
  go_loopw [5] (fun i wr => ∃ k : Nat, i = .int .i64 k ∧ k ≤ l.length ∧ Dr w wr ∧ Hid (IdsOk o l k)) (fun i _ => l.length - (intOf i).toNat)
  case atStart => exact ⟨0, rfl, Nat.zero_le _, Dr.refl _, fun _ _ e => absurd e (Nat.not_lt_zero _)⟩
  case round =>
    obtain ⟨k, rfl, hk, HW, H⟩ := hrel
    by_cases hlt : k < l.length
    case neg =>
      have HI : Hid (IdsOk o l l.length) := by
        have e : k = l.length := by omega
        rw [← e]; exact H.out
      clear H
      go_wp2
      go_loopw [7] (fun i wr => ∃ k : Nat, i = .int .i64 k ∧ k ≤ l.length ∧ Dr w wr ∧ Hid (ApartN l k)) (fun i _ => l.length - (intOf i).toNat)
      case atStart => exact ⟨0, rfl, Nat.zero_le _, HW, fun _ _ e => absurd e (Nat.not_lt_zero _)⟩
      case round =>
        obtain ⟨k2, rfl, hk2, HW2, H2⟩ := hrel
        by_cases hlt2 : k2 < l.length
        case neg =>
          have HA : Hid (∀ x ∈ l, ∀ y ∈ l, isInB x.name y.name = false) := by
            have e : k2 = l.length := by omega
            exact apartN_all (by rw [← e]; exact H2.out)
          go_wp2
          go_ret
          exact ⟨⟨_, rfl, fun _ => ⟨HI.out, HA.out⟩⟩, HW2⟩
        have hlt2' : (k2 : Int) < (l.length : Int) := by omega
        go_wp2
        go_loopw [8] (fun i wr => ∃ t : Nat, i = .int .i64 t ∧ t ≤ l.length ∧ Dr w wr ∧ Hid (ApartM l l[k2].name t)) (fun i _ => l.length - (intOf i).toNat)
        case atStart => exact ⟨0, rfl, Nat.zero_le _, HW2, fun _ _ e => absurd e (Nat.not_lt_zero _)⟩
        case round =>
          obtain ⟨t, rfl, ht, HW3, H3⟩ := hrel
          by_cases htl : t < l.length
          case neg =>
            have HN : Hid (ApartN l (k2 + 1)) := H2.out.next hlt2 (by
              have e : t = l.length := by omega
              rw [← e]; exact H3.out)
            go_wp2
            go_roundw
            case rel => exact ⟨k2 + 1, by go_num, by omega, HW3, HN⟩
            case measure => simp [intOf]; omega
          have htl' : (t : Int) < (l.length : Int) := by omega
          obtain ⟨b, off, rfl, hb, hc⟩ := (h.below HW3.below) t htl
          obtain ⟨x0, -⟩ := hc k2 hlt2
          obtain ⟨y0, -⟩ := hc t htl
          clear hc
          obtain ⟨q, hq⟩ : ∃ q, q = isInB l[k2].name l[t].name := ⟨_, rfl⟩
          have kq : ∀ n, Calls Tryz.prog 122 #[.string l[k2].name, .string l[t].name] (wr.drewN n) fun e w' => e = .returned (.bool q) ∧ w' = wr.drewN n := fun n => by rw [hq]; exact isIn_any _ _ _
          have HQ : Hid (q = isInB l[k2].name l[t].name) := hq
          clear hq
          go_wp2
          go_quiet ((go_at_call 122; exact Calls.quiet_of_same (kq _)))
          cases q with
          | true =>
            go_wp2
            go_ret
            exact ⟨⟨_, rfl, fun e => by cases e⟩, HW3.drewN _⟩
          | false =>
            have HN : Hid (ApartM l l[k2].name (t + 1)) := H3.out.next htl HQ.out.symm
            go_wp2
            go_roundw
            case rel => exact ⟨t + 1, by go_num, by omega, HW3.drewN _, HN⟩
            case measure => simp [intOf]; omega
    have hlt' : (k : Int) < (l.length : Int) := by omega
    obtain ⟨b, off, rfl, hb, hc⟩ := (h.below HW.below) k hlt
    obtain ⟨x0, x1⟩ := hc k hlt
    have hcm : ∀ n, Calls Tryz.prog 121 #[.slice ao o.length co, .int .i64 l[k].id] (wr.drewN n) fun e w' => e = .returned (.int .i64 (commitW o l[k].id)) ∧ w' = wr.drewN n := fun n => commitR_any _ co o _ _ (ho.below (HW.drewN n).below) hol
    have HC : Hid (commitW o l[k].id = 0 → IdsOk o l (k + 1)) := fun e => IdsOk.next H.out hlt (commitW_zero e)
    obtain ⟨q, hq⟩ : ∃ q, q = commitW o l[k].id := ⟨_, rfl⟩
    rw [← hq] at hcm HC
    clear hq
    go_wp2_with fail
    refine (checkName_any l[k].name wr).mono ?_
    rintro e w1 ⟨⟨r, rfl⟩, hw1⟩
    rw [hw1]
    clear hw1 w1
    by_cases hr : r = 0
    case neg =>
      have f0 : (r == 0) = false := by simpa using hr
      have f1 : (r != 0) = true := by simpa using hr
      have HR : Hid (¬ r = 0) := hr
      clear hr hc
      go_wp2
      go_quiet (fail)
      go_wp2
      go_ret
      exact ⟨⟨_, rfl, fun e => absurd e HR.out⟩, HW.drewN _⟩
    subst hr
    by_cases hk0 : k = 0
    case pos =>
      have g0 : decide (0 < k) = false := by simp; omega
      clear hk0 hc
      go_wp2
      go_quiet (fail)
      go_wp2_with fail
      refine (hcm _).mono ?_
      rintro e w1 ⟨rfl, hw1⟩
      rw [hw1]
      clear hw1 w1 hcm
      by_cases q0 : q = 0
      case neg =>
        have f1 : (q != 0) = true := by simpa using q0
        have HR : Hid (¬ q = 0) := q0
        clear q0
        go_wp2
        go_ret
        exact ⟨⟨_, rfl, fun e => absurd e HR.out⟩, HW.drewN _⟩
      have HN : Hid (IdsOk o l (k + 1)) := HC.out q0
      subst q0
      go_wp2
      go_roundw
      case rel => exact ⟨k + 1, by go_num, by omega, HW.drewN _, HN⟩
      case measure => simp [intOf]; omega
    have g0 : decide (0 < k) = true := by simp; omega
    have g1 : 0 < k := by omega
    have hp1 : (k : Int) - 1 < (l.length : Int) := by omega
    have hp0 : (0 : Int) ≤ (k : Int) - 1 := by omega
    have hkl : k - 1 < l.length := by omega
    have hp : wr.cell? ⟨b, off + (k - 1) * 2, none⟩ = some (.string (l[k - 1]'hkl).name) := (hc (k - 1) hkl).1
    obtain ⟨y, hy⟩ : ∃ y, y = (l[k - 1]'hkl).name := ⟨_, rfl⟩
    rw [← hy] at hp
    clear hk0 hc hy
    by_cases hle : (Op.bytesLess l[k].name.toList y.toList || l[k].name.toList == y.toList) = true
    case pos =>
      go_wp2
      go_quiet (fail)
      go_wp2
      go_ret
      exact ⟨⟨_, rfl, fun e => by cases e⟩, HW.drewN _⟩
    have hle' : (Op.bytesLess l[k].name.toList y.toList || l[k].name.toList == y.toList) = false := by simpa using hle
    clear hle
    go_wp2
    go_quiet (fail)
    go_wp2_with fail
    refine (hcm _).mono ?_
    rintro e w1 ⟨rfl, hw1⟩
    rw [hw1]
    clear hw1 w1 hcm
    by_cases q0 : q = 0
    case neg =>
      have f1 : (q != 0) = true := by simpa using q0
      have HR : Hid (¬ q = 0) := q0
      clear q0
      go_wp2
      go_ret
      exact ⟨⟨_, rfl, fun e => absurd e HR.out⟩, HW.drewN _⟩
    have HN : Hid (IdsOk o l (k + 1)) := HC.out q0
    subst q0
    go_wp2
    go_roundw
    case rel => exact ⟨k + 1, by go_num, by omega, HW.drewN _, HN⟩
    case measure => simp [intOf]; omega

set_option maxHeartbeats 1000000 in
theorem checkRefsR_any (a : Option Addr) (c : Nat) (l : List Rf) (ao : Option Addr) (co : Nat) (o : List Ob) (w : World) (h : HoldsR w a l) (hl : l.length ≤ 9223372036854775807) (ho : HoldsS w ao o) (hol : o.length ≤ 9223372036854775807) (hoc : o.length ≤ co) :
    Calls Tryz.prog 23 #[.slice a l.length c, .slice ao o.length co] w fun e w' => (∃ r, e = .returned (.int .i64 r) ∧ (r = 0 → checkS o = 0 ∧ IdsOk o l l.length ∧ ∀ x ∈ l, ∀ y ∈ l, isInB x.name y.name = false)) ∧ Below w.heap.size w w' := by
  go_enter Tryz.func23, Tryz.ntmps23
  go_wp2_with fail
  refine (checkStoreR_any ao co o w ho hol hoc).mono ?_
  rintro e w1 ⟨⟨r, rfl, hr⟩, hb1⟩
  by_cases q : r = 0
  case neg =>
    have f1 : (r == 0) = false := by simpa using q
    have HR : Hid (¬ r = 0) := q
    clear q hr
    go_wp2
    go_ret
    exact ⟨⟨_, rfl, fun e => absurd e HR.out⟩, hb1⟩
  have HS : Hid (checkS o = 0) := hr q
  subst q
  clear hr
  go_wp2_with fail
  refine (checkRight_any a c l ao co o w1 (h.below hb1) hl (ho.below hb1) hol).mono ?_
  rintro e w2 ⟨⟨r, rfl, hr⟩, hd⟩
  have HR : Hid (r = 0 → checkS o = 0 ∧ IdsOk o l l.length ∧ ∀ x ∈ l, ∀ y ∈ l, isInB x.name y.name = false) := fun e => ⟨HS.out, hr e⟩
  have hB := hb1.trans (hd.below.mono hb1.size)
  clear hr hd hb1
  go_wp2
  go_ret
  exact ⟨⟨_, rfl, HR.out⟩, hB⟩
end

section
open Go.RowKit
set_option maxRecDepth 100000

set_option maxHeartbeats 400000 in
theorem moves_any (w : World) : Calls Tryz.prog 64 #[] w fun e w' => ∃ g, e = .returned (.slice (some ⟨g, 0, none⟩) 2 2) ∧ HoldsU w' (some ⟨g, 0, none⟩) movesL ∧ Below w.heap.size w w' := by
  have hA := below_alloc w (.cells #[.string nMain, .int .i64 3, .int .i64 5, .string nB, .int .i64 0, .int .i64 3] 40)
  have hbk := heap_alloc_new w (.cells #[.string nMain, .int .i64 3, .int .i64 5, .string nB, .int .i64 0, .int .i64 3] 40)
  have hH : HoldsU (w.alloc (.cells #[.string nMain, .int .i64 3, .int .i64 5, .string nB, .int .i64 0, .int .i64 3] 40)) (some ⟨w.heap.size, 0, none⟩) movesL := by
    intro i hi
    refine ⟨_, _, rfl, heap_lt hbk, fun k hk => ?_⟩
    match k, hk with
    | 0, _ => exact ⟨by rw [cell_of_row _ _ _ _ _ _ hbk]; rfl, by rw [cell_of_row _ _ _ _ _ _ hbk]; rfl, by rw [cell_of_row _ _ _ _ _ _ hbk]; rfl⟩
    | 1, _ => exact ⟨by rw [cell_of_row _ _ _ _ _ _ hbk]; rfl, by rw [cell_of_row _ _ _ _ _ _ hbk]; rfl, by rw [cell_of_row _ _ _ _ _ _ hbk]; rfl⟩
  go_enter Tryz.func64, Tryz.ntmps64
  go_wp2
  go_ret
  exact ⟨_, rfl, hH, hA⟩

set_option maxHeartbeats 2000000 in
theorem updateBegun_any (w : World) (hg : Glob w) : Calls Tryz.prog 21 #[] w fun e w' => e = .returned (.bool true) ∧ Below w.heap.size w w' := by
  go_enter Tryz.func21, Tryz.ntmps21
  go_wp2_with fail
  refine (names_any w).mono ?_
  rintro e w1 ⟨g1, rfl, h1, hb1⟩
  go_wp2_with fail
  refine (shelf_room w1).mono ?_
  rintro e w2 ⟨g2, rfl, hb2, h2, r2⟩
  have h1' := h1.below hb2
  have hB2 := hb1.trans (hb2.mono hb1.size)
  clear h1 hb1 hb2
  go_wp2_with fail
  refine (moves_any w2).mono ?_
  rintro e w3 ⟨g3, rfl, h3, hb3⟩
  have h13 := h1'.below hb3
  have h23 := h2.below hb3
  have r23 := r2.below hb3
  have hB3 := hB2.trans (hb3.mono hB2.size)
  clear h1' h2 r2 hb3 hB2
  have hap := apply_any (some ⟨g1, 0, none⟩) 2 namesL (some ⟨g2, 0, none⟩) 5 shelfL (some ⟨g3, 0, none⟩) 2 movesL false w3 (hg.below hB3) h13 (by decide) h23 r23 (by decide) h3 (by decide)
  go_wp2_with fail
  refine hap.mono ?_
  clear hap
  rintro e w4 ⟨hb4, ⟨hno, -⟩ | ⟨-, a4, c4, rfl, h4, -⟩⟩
  case inl => exact absurd beg_apply hno
  rw [beg_moved] at h4
  rw [show (runL namesL movesL).length = movedL.length by rw [beg_moved]]
  have hB4 := hB3.trans (hb4.mono hB3.size)
  clear hb4 hB3 h13 h23 r23 h3
  go_wp2_with fail
  refine (moves_any w4).mono ?_
  rintro e w5 ⟨g5, rfl, h5, hb5⟩
  have h45 := h4.below hb5
  have hB5 := hB4.trans (hb5.mono hB4.size)
  clear hb5 hB4 h4
  have htx := text_any (some ⟨g5, 0, none⟩) 2 movesL w5 (hg.below hB5) h5 (by decide)
  go_wp2_with fail
  refine htx.mono ?_
  clear htx
  rintro e w6 ⟨rfl, hb6⟩
  rw [beg_text, beg_checkU]
  have h46 := h45.below hb6
  have hB6 := hB5.trans (hb6.mono hB5.size)
  clear hb6 hB5 h45 h5
  go_wp2_with fail
  refine (names_any w6).mono ?_
  rintro e w7 ⟨g7, rfl, h7, hb7⟩
  have h47 := h46.below hb7
  have hB7 := hB6.trans (hb7.mono hB6.size)
  clear hb7 hB6 h46
  go_wp2_with fail
  refine (shelf_room w7).mono ?_
  rintro e w8 ⟨g8, rfl, hb8, h8, r8⟩
  have hA8 := below_alloc w8 (.cells #[.string nXY, .int .i64 5, .int .i64 3] 40)
  have h9 := holdsU_one w8 ⟨nXY, 5, 3⟩
  have h48 := (h47.below hb8).below hA8
  have h78 := (h7.below hb8).below hA8
  have h88 := h8.below hA8
  have r88 := r8.below hA8
  have hB8 := (hB7.trans (hb8.mono hB7.size)).trans (hA8.mono (hB7.trans (hb8.mono hB7.size)).size)
  have hap := apply_any (some ⟨g7, 0, none⟩) 2 namesL (some ⟨g8, 0, none⟩) 5 shelfL (some ⟨w8.heap.size, 0, none⟩) 1 backL false _ (hg.below hB8) h78 (by decide) h88 r88 (by decide) h9 (by decide)
  clear hb8 hB7 h47 h7 h8 r8 h9 h78 h88 r88 hA8
  go_wp2_with fail
  refine hap.mono ?_
  clear hap
  rintro e w9 ⟨hb9, ⟨-, rfl⟩ | ⟨hno, -⟩⟩
  case inr => rw [beg_back] at hno; cases hno
  rw [beg_back]
  have h49 := h48.below hb9
  have hB9 := hB8.trans (hb9.mono hB8.size)
  clear hb9 hB8 h48
  go_wp2_with fail
  refine (moves_any w9).mono ?_
  rintro e w10 ⟨g10, rfl, h10, hb10⟩
  have h410 := h49.below hb10
  have hB10 := hB9.trans (hb10.mono hB9.size)
  clear hb10 hB9 h49
  go_wp2_with fail
  refine (ucheck_any (some ⟨g10, 0, none⟩) 2 movesL w10 (hg.below hB10) h10 (by decide)).mono ?_
  rintro e w11 ⟨rfl, hb11⟩
  rw [beg_checkU]
  have hA := below_alloc w11 (.cells #[.string nB, .int .i64 3, .string nMain, .int .i64 5, .string nXY, .int .i64 5] 65)
  have hbk := heap_alloc_new w11 (.cells #[.string nB, .int .i64 3, .string nMain, .int .i64 5, .string nXY, .int .i64 5] 65)
  have hH : HoldsR (w11.alloc (.cells #[.string nB, .int .i64 3, .string nMain, .int .i64 5, .string nXY, .int .i64 5] 65)) (some ⟨w11.heap.size, 0, none⟩) movedL := by
    intro i hi
    refine ⟨_, _, rfl, heap_lt hbk, fun k hk => ?_⟩
    match k, hk with
    | 0, _ => exact ⟨by rw [cell_of_row _ _ _ _ _ _ hbk]; rfl, by rw [cell_of_row _ _ _ _ _ _ hbk]; rfl⟩
    | 1, _ => exact ⟨by rw [cell_of_row _ _ _ _ _ _ hbk]; rfl, by rw [cell_of_row _ _ _ _ _ _ hbk]; rfl⟩
    | 2, _ => exact ⟨by rw [cell_of_row _ _ _ _ _ _ hbk]; rfl, by rw [cell_of_row _ _ _ _ _ _ hbk]; rfl⟩
  have h411 := (h410.below hb11).below hA
  have hB11 := (hB10.trans (hb11.mono hB10.size)).trans (hA.mono (hB10.trans (hb11.mono hB10.size)).size)
  have hsr := sameRefs_eq a4 c4 (some ⟨w11.heap.size, 0, none⟩) 3 movedL _ h411 hH (by decide)
  clear hb11 hB10 h410 hA hbk hH h411 h10
  go_wp2_with fail
  refine hsr.mono ?_
  clear hsr
  rintro e w12 ⟨rfl, hb12⟩
  have hB12 := hB11.trans (hb12.mono hB11.size)
  clear hb12 hB11
  go_wp2
  go_ret
  exact ⟨rfl, hB12⟩
end
end Go.Proofs.YtehmlpkapjdhkaaGreatDoor
