import Derived.Test.YtdclffgbmcecdaaA14
namespace Go.Proofs.Ytdclffgbmcecdaa
open Go.RowKit

/-- the link that link k must rise above. -/
def prevL (kind : Int) (L : List Int) (k : Nat) : Int := if k = 0 then 0 else if kind = 3 ∧ k = 1 then 0 else L.getD (k - 1) 0

theorem pl_next {id kind : Int} {L : List Int} {k : Nat} {r : Int} (hlt : k < L.length) (H : r = linksE id kind k (prevL kind L k) (L.drop k)) (h : 1 ≤ L[k] ∧ L[k] < id) (h2 : prevL kind L k < L[k]) : r = linksE id kind (k + 1) (prevL kind L (k + 1)) (L.drop (k + 1)) := by
  have e : prevL kind L (k + 1) = if kind = 3 ∧ k = 0 then prevL kind L k else L[k] := by
    unfold prevL
    rw [if_neg (by omega), Nat.add_sub_cancel]
    by_cases h3 : kind = 3 ∧ k = 0
    · rw [if_pos h3, if_pos (by omega), if_pos h3.2]
    · rw [if_neg h3, if_neg (by omega)]; simp [hlt]
  rw [H, drop_at hlt, linksE, if_neg (by omega), if_neg (by omega), e]
theorem pl_state {id kind : Int} {L : List Int} {k : Nat} {r : Int} (hlt : k < L.length) (H : r = linksE id kind k (prevL kind L k) (L.drop k)) (h : 1 ≤ L[k] ∧ L[k] < id) (hk : 0 < k) (hn : ¬ (kind = 3 ∧ k = 1)) (h2 : L[k] ≤ L.getD (k - 1) 0) : r = 4 := by
  refine lk_state hlt H h ?_
  rw [prevL, if_neg (by omega), if_neg hn]; exact h2
theorem pl_lt0 {kind : Int} {L : List Int} {k : Nat} {x : Int} (hk : k = 0 ∨ (kind = 3 ∧ k = 1)) (h : 1 ≤ x) : prevL kind L k < x := by
  unfold prevL
  rcases hk with rfl | h3
  · simp; omega
  · rw [if_neg (by omega), if_pos h3]; omega
theorem pl_lt {kind : Int} {L : List Int} {k : Nat} {x : Int} (hk : 0 < k) (hn : ¬ (kind = 3 ∧ k = 1)) (h : L.getD (k - 1) 0 < x) : prevL kind L k < x := by
  rw [prevL, if_neg (by omega), if_neg hn]; exact h
theorem betw_true {x lo hi : Int} (h : lo ≤ x ∧ x ≤ hi) : betwB x lo hi = true := by simp [betwB, h]
theorem betw_false {x lo hi : Int} (h : ¬ (lo ≤ x ∧ x ≤ hi)) : betwB x lo hi = false := by simp only [betwB, decide_eq_false_iff_not]; exact h

/-- the world of the box, some draws later. -/
def SameW (w : World) (id kind : Int) (a : Option Addr) (c : Nat) (L : List Int) (t : ByteArray) (wr : World) : Prop := ∃ n, wr = (w.alloc (.cells #[.int .i64 id, .int .i64 kind, .slice a L.length c, .string t] 24)).drewN n
theorem SameW.drewN {w : World} {id kind : Int} {a : Option Addr} {c : Nat} {L : List Int} {t : ByteArray} {wr : World} (h : SameW w id kind a c L t wr) (m : Nat) : SameW w id kind a c L t (wr.drewN m) := by
  obtain ⟨n, rfl⟩ := h
  exact ⟨n + m, by simp⟩
theorem SameW.c0 {w : World} {id kind : Int} {a : Option Addr} {c : Nat} {L : List Int} {t : ByteArray} {wr : World} (h : SameW w id kind a c L t wr) : wr.cell? ⟨w.heap.size, 0, none⟩ = some (.int .i64 id) := by
  obtain ⟨n, rfl⟩ := h
  simp [go_sem]
theorem SameW.c1 {w : World} {id kind : Int} {a : Option Addr} {c : Nat} {L : List Int} {t : ByteArray} {wr : World} (h : SameW w id kind a c L t wr) : wr.cell? ⟨w.heap.size, 1, none⟩ = some (.int .i64 kind) := by
  obtain ⟨n, rfl⟩ := h
  simp [go_sem]
theorem SameW.c2 {w : World} {id kind : Int} {a : Option Addr} {c : Nat} {L : List Int} {t : ByteArray} {wr : World} (h : SameW w id kind a c L t wr) : wr.cell? ⟨w.heap.size, 2, none⟩ = some (.slice a L.length c) := by
  obtain ⟨n, rfl⟩ := h
  simp [go_sem]
theorem SameW.c3 {w : World} {id kind : Int} {a : Option Addr} {c : Nat} {L : List Int} {t : ByteArray} {wr : World} (h : SameW w id kind a c L t wr) : wr.cell? ⟨w.heap.size, 3, none⟩ = some (.string t) := by
  obtain ⟨n, rfl⟩ := h
  simp [go_sem]
theorem SameW.below {w : World} {id kind : Int} {a : Option Addr} {c : Nat} {L : List Int} {t : ByteArray} {wr : World} (h : SameW w id kind a c L t wr) : Below w.heap.size w wr := by
  obtain ⟨n, rfl⟩ := h
  exact below_drewN (below_alloc _ _) n
theorem SameW.link {w : World} {id kind : Int} {a : Option Addr} {c : Nat} {L : List Int} {t : ByteArray} {wr : World} (hS : SameW w id kind a c L t wr) (h : Holds w a L) {k : Nat} (hlt : k < L.length) :
    ∀ b off, a = some ⟨b, off, none⟩ → wr.cell? ⟨b, off + k, none⟩ = some (.int .i64 (L.getD k 0)) := by
  intro b off e
  obtain ⟨b', off', e', _, hc⟩ := h.below hS.below k hlt
  rw [e] at e'
  cases e'
  exact hc k hlt

set_option maxHeartbeats 1000000 in
theorem checkObject_any (id kind : Int) (a : Option Addr) (c : Nat) (L : List Int) (t : ByteArray) (w : World)
    (h : Holds w a L) (l : L.length ≤ 9223372036854775807) :
    Calls Try.prog 12 #[.agg #[.int .i64 id, .int .i64 kind, .slice a L.length c, .string t]] w
      fun e w' => e = .returned (.int .i64 (checkE id kind L t.size)) ∧ Below w.heap.size w w' := by
  have h' := h.below (below_alloc w (.cells #[.int .i64 id, .int .i64 kind, .slice a L.length c, .string t] 24))
  have hB := below_alloc w (.cells #[.int .i64 id, .int .i64 kind, .slice a L.length c, .string t] 24)
  go_enter Try.func12, Try.ntmps12
  go_wp2_with fail
  refine (between_any id 1 99 _).mono ?_
  rintro e w1 ⟨rfl, rfl⟩
  by_cases hid : 1 ≤ id ∧ id ≤ 99
  · rw [betw_true hid]
    go_wp2_with fail
    refine (between_any kind 1 3 _).mono ?_
    rintro e w1 ⟨rfl, rfl⟩
    by_cases hki : 1 ≤ kind ∧ kind ≤ 3
    · rw [betw_true hki]
      by_cases hmany : (4 : Int) < (L.length : Int) ∨ (8 : Int) < (t.size : Int)
      · go_wp2_with fail
        all_goals (go_ret; exact ⟨ret_int (ck_many hid hki hmany).symm, hB⟩)
      · have hfew : (L.length : Int) ≤ 4 ∧ (t.size : Int) ≤ 8 := by omega
        have hf1 := hfew.1
        have hf2 := hfew.2
        have hd1 : decide ((4 : Int) < (L.length : Int)) = false := by simp; omega
        have hd2 : decide ((8 : Int) < (t.size : Int)) = false := by simp; omega
        clear hmany
        go_wp2_with fail
        have S0 : SameW w id kind a c L t (w.alloc (.cells #[.int .i64 id, .int .i64 kind, .slice a L.length c, .string t] 24)) := ⟨0, rfl⟩
        go_loopw [3] (fun i wr => ∃ k : Nat, i = .int .i64 k ∧ k ≤ L.length ∧ Hid (linksE id kind 0 0 L = linksE id kind k (prevL kind L k) (L.drop k)) ∧ SameW w id kind a c L t wr) (fun i _ => L.length - (intOf i).toNat)
        case atStart => exact ⟨0, rfl, Nat.zero_le _, rfl, S0⟩
        case round =>
          clear S0 h' hB
          obtain ⟨k, rfl, hk, H, HW⟩ := hrel
          have q0 := HW.c0
          have q1 := HW.c1
          have q2 := HW.c2
          by_cases hlt : k < L.length
          · have hc := HW.link h hlt
            have hlt' : (k : Int) < (L.length : Int) := by omega
            have hw1 : IntKind.i64.wrap (id - 1) = id - 1 := by simp [IntKind.wrap, IntKind.bits, IntKind.signed]; omega
            obtain ⟨b1, o1, rfl, _, _⟩ := h k hlt
            have hk1 : wr.cell? ⟨b1, o1 + k, none⟩ = some (.int .i64 L[k]) := by have := hc b1 o1 rfl; simpa [hlt] using this
            by_cases hin : 1 ≤ L[k] ∧ L[k] < id
            · have hbt : betwB L[k] 1 (id - 1) = true := betw_true (by omega)
              by_cases h0 : k = 0
              · have hg : decide (0 < k) = false := by simp; omega
                have HH : Hid (linksE id kind 0 0 L = linksE id kind (k + 1) (prevL kind L (k + 1)) (L.drop (k + 1))) := pl_next hlt H.out hin (pl_lt0 (Or.inl h0) hin.1)
                clear h0 hc
                go_wp2
                go_quiet ((go_at_call 24; exact Calls.quiet_of_same (between_any _ _ _ _)))
                go_wp2
                go_quiet (fail)
                go_wp2
                go_roundw
                case rel => exact ⟨k + 1, by go_num, by omega, HH, HW.drewN _⟩
                case measure => simp [intOf]; omega
              · have hg : decide (0 < k) = true := by simp; omega
                have hg' : 0 < k := by omega
                have hp : wr.cell? ⟨b1, o1 + (k - 1), none⟩ = some (.int .i64 (L.getD (k - 1) 0)) := HW.link h (show k - 1 < L.length by omega) b1 o1 rfl
                have hi1 : (0 : Int) ≤ (k : Int) - 1 := by omega
                have hi2 : (k : Int) - 1 < (L.length : Int) := by omega
                by_cases h3 : kind = 3
                · have e3 : (kind == 3) = true := by simpa using h3
                  by_cases h1 : k = 1
                  · have e1 : ((k : Int) == 1) = true := by simp; omega
                    have HH : Hid (linksE id kind 0 0 L = linksE id kind (k + 1) (prevL kind L (k + 1)) (L.drop (k + 1))) := pl_next hlt H.out hin (pl_lt0 (Or.inr ⟨h3, h1⟩) hin.1)
                    clear h0 hc h3 h1
                    go_wp2
                    go_quiet ((go_at_call 24; exact Calls.quiet_of_same (between_any _ _ _ _)))
                    go_wp2
                    go_quiet (fail)
                    go_wp2
                    go_roundw
                    case rel => exact ⟨k + 1, by go_num, by omega, HH, HW.drewN _⟩
                    case measure => simp [intOf]; omega
                  · have e1 : ((k : Int) == 1) = false := by simp; omega
                    have hn : ¬ (kind = 3 ∧ k = 1) := fun e => h1 e.2
                    generalize hy : L.getD (k - 1) 0 = y at *
                    by_cases hy2 : L[k] ≤ y
                    · have e4 : linksE id kind 0 0 L = 4 := pl_state hlt H.out hin hg' hn (by rw [hy]; exact hy2)
                      have HR : Hid (checkE id kind L t.size = 4) := by unfold Hid; rw [ck_links hid hki hfew (by rw [e4]; decide), e4]
                      clear hc e4 hy h3
                      go_wp2
                      go_quiet ((go_at_call 24; exact Calls.quiet_of_same (between_any _ _ _ _)))
                      go_wp2
                      go_quiet (fail)
                      go_wp2
                      go_ret
                      exact ⟨ret_int HR.out.symm, ((HW.drewN _).drewN _).below⟩
                    · have HH : Hid (linksE id kind 0 0 L = linksE id kind (k + 1) (prevL kind L (k + 1)) (L.drop (k + 1))) := pl_next hlt H.out hin (pl_lt hg' hn (by rw [hy]; omega))
                      clear hc hy h3
                      go_wp2
                      go_quiet ((go_at_call 24; exact Calls.quiet_of_same (between_any _ _ _ _)))
                      go_wp2
                      go_quiet (fail)
                      go_wp2
                      go_roundw
                      case rel => exact ⟨k + 1, by go_num, by omega, HH, HW.drewN _⟩
                      case measure => simp [intOf]; omega
                · have e3 : (kind == 3) = false := by simpa using h3
                  have hn : ¬ (kind = 3 ∧ k = 1) := fun e => h3 e.1
                  generalize hy : L.getD (k - 1) 0 = y at *
                  by_cases hy2 : L[k] ≤ y
                  · have e4 : linksE id kind 0 0 L = 4 := pl_state hlt H.out hin hg' hn (by rw [hy]; exact hy2)
                    have HR : Hid (checkE id kind L t.size = 4) := by unfold Hid; rw [ck_links hid hki hfew (by rw [e4]; decide), e4]
                    clear hc e4 hy h3
                    go_wp2
                    go_quiet ((go_at_call 24; exact Calls.quiet_of_same (between_any _ _ _ _)))
                    go_wp2
                    go_quiet (fail)
                    go_wp2
                    go_ret
                    exact ⟨ret_int HR.out.symm, ((HW.drewN _).drewN _).below⟩
                  · have HH : Hid (linksE id kind 0 0 L = linksE id kind (k + 1) (prevL kind L (k + 1)) (L.drop (k + 1))) := pl_next hlt H.out hin (pl_lt hg' hn (by rw [hy]; omega))
                    clear hc hy h3
                    go_wp2
                    go_quiet ((go_at_call 24; exact Calls.quiet_of_same (between_any _ _ _ _)))
                    go_wp2
                    go_quiet (fail)
                    go_wp2
                    go_roundw
                    case rel => exact ⟨k + 1, by go_num, by omega, HH, HW.drewN _⟩
                    case measure => simp [intOf]; omega
            · have hbf : betwB L[k] 1 (id - 1) = false := betw_false (by omega)
              have e4 : linksE id kind 0 0 L = 3 := lk_range hlt H.out (by omega)
              have HR : Hid (checkE id kind L t.size = 3) := by unfold Hid; rw [ck_links hid hki hfew (by rw [e4]; decide), e4]
              clear hc e4
              go_wp2
              go_quiet ((go_at_call 24; exact Calls.quiet_of_same (between_any _ _ _ _)))
              go_wp2
              go_ret
              exact ⟨ret_int HR.out.symm, (HW.drewN _).below⟩
          · have e4 : linksE id kind 0 0 L = 0 := lk_end hk hlt H.out
            have HZ : Hid (linksE id kind 0 0 L = 0) := e4
            have q3 := HW.c3
            clear e4 H
            by_cases k1 : kind = 1
            · subst k1
              cases L with
              | nil =>
                go_wp2
                go_ret
                exact ⟨ret_int (ck_ok hid hki hfew HZ.out (by simp)).symm, HW.below⟩
              | cons x xs =>
                have hge : ¬ ((k : Int) < (xs.length : Int) + 1) := by simp at hlt; omega
                go_wp2
                go_ret
                exact ⟨ret_int (ck_form hid hki hfew HZ.out (by simp)).symm, HW.below⟩
            · by_cases k3 : kind = 3
              · subst k3
                cases L with
                | nil =>
                  go_wp2
                  go_ret
                  exact ⟨ret_int (ck_form hid hki hfew HZ.out (by simp)).symm, HW.below⟩
                | cons x xs =>
                  have hne : (((x :: xs).length : Int) == 0) = false := by simp; omega
                  have hne' : ((xs.length : Int) + 1 == 0) = false := by simp; omega
                  have hge : ¬ ((k : Int) < (xs.length : Int) + 1) := by simp at hlt; omega
                  go_wp2
                  go_ret
                  exact ⟨ret_int (ck_ok hid hki hfew HZ.out (by simp)).symm, HW.below⟩
              · have e1 : (kind == 1) = false := by simpa using k1
                have e3 : (kind == 3) = false := by simpa using k3
                go_wp2
                go_ret
                exact ⟨ret_int (ck_ok hid hki hfew HZ.out (by omega)).symm, HW.below⟩
    · rw [betw_false hki]
      go_wp2
      go_ret
      exact ⟨ret_int (ck_kind hid (by omega)).symm, hB⟩
  · rw [betw_false hid]
    go_wp2
    go_ret
    exact ⟨ret_int (ck_range (by omega)).symm, hB⟩
end Go.Proofs.Ytdclffgbmcecdaa
