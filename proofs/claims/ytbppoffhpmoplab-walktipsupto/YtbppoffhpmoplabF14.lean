import Derived.Test.YtbppoffhpmoplabH2
namespace Go.Proofs.Ytbppoffhpmoplab
open Go.RowKit

/-- a commit of a store. -/
def IsC (l : List Ob) (i : Int) : Prop := (∃ x ∈ l, x.id = i) ∧ ∀ x ∈ l, x.id = i → x.kind = 3
theorem behindE_iff {l : List Ob} {a b : Int} : behindE l a b = 0 ↔ checkS l = 0 ∧ IsC l a ∧ IsC l b := by
  unfold behindE
  by_cases h1 : checkS l = 0
  case neg =>
    rw [if_pos h1]
    exact ⟨fun e => absurd e h1, fun e => absurd e.1 h1⟩
  rw [if_neg (fun e => e h1)]
  by_cases h2 : thereE l [a, b] = 0
  case neg =>
    rw [if_pos h2]
    refine ⟨fun e => absurd e h2, fun e => absurd (thereE_iff.2 fun i hi => ?_) h2⟩
    simp only [List.mem_cons, List.not_mem_nil, or_false] at hi
    rcases hi with rfl | rfl
    · exact e.2.1.1
    · exact e.2.2.1
  rw [if_neg (fun e => e h2)]
  have ht := thereE_iff.1 h2
  constructor
  · intro e
    have h3 : l.any (otherP 3 [a, b]) = false := by
      cases q : l.any (otherP 3 [a, b]) with
      | false => rfl
      | true => rw [if_pos q] at e; omega
    have hk : ∀ x ∈ l, x.id ∈ [a, b] → x.kind = 3 := fun x hx hi => by
      have := List.any_eq_false.1 h3 x hx
      unfold otherP at this
      rcases Classical.em (x.kind = 3) with q | q
      · exact q
      · exact absurd (by simp only [Bool.and_eq_true, decide_eq_true_eq]; exact ⟨by simpa using q, hi⟩) this
    exact ⟨h1, ⟨ht a (by simp), fun x hx e => hk x hx (by simp [e])⟩, ⟨ht b (by simp), fun x hx e => hk x hx (by simp [e])⟩⟩
  · rintro ⟨_, ha, hb⟩
    rw [if_neg]
    intro q
    obtain ⟨x, hx, hq⟩ := List.any_eq_true.1 q
    unfold otherP at hq
    simp only [Bool.and_eq_true, decide_eq_true_eq, bne_iff_ne, List.mem_cons, List.not_mem_nil, or_false] at hq
    rcases hq.2 with e | e
    · exact hq.1 (ha.2 x hx e)
    · exact hq.1 (hb.2 x hx e)
theorem behindE_comm {l : List Ob} {a b : Int} : behindE l a b = 0 ↔ behindE l b a = 0 := by
  rw [behindE_iff, behindE_iff]
  exact ⟨fun h => ⟨h.1, h.2.2, h.2.1⟩, fun h => ⟨h.1, h.2.2, h.2.1⟩⟩
theorem behindB_iff {l : List Ob} {a b : Int} : behindB l a b = true ↔ behindE l a b = 0 ∧ a ∈ reachP l [b] := by
  unfold behindB
  simp
theorem behindB_bad {l : List Ob} {a b : Int} (h : behindE l a b ≠ 0) : behindB l a b = false := by
  unfold behindB
  simp [h]
theorem behind_self {l : List Ob} {a b : Int} (h : behindE l a b = 0) : behindE l a a = 0 ∧ behindB l a a = true := by
  obtain ⟨h1, h2, _⟩ := behindE_iff.1 h
  have e : behindE l a a = 0 := behindE_iff.2 ⟨h1, h2, h2⟩
  exact ⟨e, behindB_iff.2 ⟨e, reachBy_sub (by simp)⟩⟩
theorem tails_less {l : List Ob} (h : checkS l = 0) : ∀ x ∈ l, ∀ y ∈ x.links.tail, y < x.id := fun x hx y hy => (right_links h x hx y (List.mem_of_mem_tail hy)).2
theorem behind_le {l : List Ob} (h : checkS l = 0) {a b : Int} (hr : a ∈ reachP l [b]) : a ≤ b := by
  refine reachBy_min (fun i => i ≤ b) (fun i hi => by simp at hi; omega) (fun x hx hxb y hy => ?_) a hr
  have := tails_less h x hx y hy
  omega
theorem behind_one {l : List Ob} {a b : Int} (h1 : behindB l a b = true) (h2 : behindB l b a = true) : a = b := by
  obtain ⟨e1, r1⟩ := behindB_iff.1 h1
  obtain ⟨_, r2⟩ := behindB_iff.1 h2
  have hc := (behindE_iff.1 e1).1
  have := behind_le hc r1
  have := behind_le hc r2
  omega
theorem behind_trans {l : List Ob} {a b c : Int} (h1 : behindE l a b = 0) (h2 : behindE l b c = 0) : behindE l a c = 0 ∧ (behindB l a b = true → behindB l b c = true → behindB l a c = true) := by
  obtain ⟨hc, ha, _⟩ := behindE_iff.1 h1
  obtain ⟨_, _, hcc⟩ := behindE_iff.1 h2
  have e : behindE l a c = 0 := behindE_iff.2 ⟨hc, ha, hcc⟩
  refine ⟨e, fun q1 q2 => behindB_iff.2 ⟨e, ?_⟩⟩
  refine reachBy_min (fun i => i ∈ reachP l [c]) (fun i hi => ?_) (reachBy_closed (checkS_iff.1 hc).2.2 (tails_less hc)) a (behindB_iff.1 q1).2
  simp only [List.mem_cons, List.not_mem_nil, or_false] at hi
  rw [hi]
  exact (behindB_iff.1 q2).2

set_option maxHeartbeats 4000000 in
theorem walkBehind_any (p : Option Addr) (cp : Nat) (l : List Ob) (a b c : Int) (w : World) (h : HoldsS w p l) (hroom : Room w p l) (hl : l.length ≤ 9223372036854775807) :
    Calls Try.prog 8 #[.slice p l.length cp, .int .i64 a, .int .i64 b, .int .i64 c] w fun e w' => e = .returned (.bool true) ∧ Below w.heap.size w w' := by
  go_enter Try.func8, Try.ntmps8
  go_wp2_with fail
  refine (behind_any p cp l a b w h hroom hl).mono ?_
  rintro e w1 ⟨rfl, hb1⟩
  go_wp2_with fail
  refine (behind_any p cp l b a w1 (h.below hb1) (hroom.below hb1) hl).mono ?_
  rintro e w2 ⟨rfl, hb2⟩
  have hB2 := hb1.trans (hb2.mono hb1.size)
  clear hb1 hb2
  go_wp2_with fail
  refine (walkBegun_any w2).mono ?_
  rintro e w3 ⟨rfl, hb3⟩
  have hB3 := hB2.trans (hb3.mono hB2.size)
  clear hb3 hB2
  by_cases he : behindE l a b = 0
  case neg =>
    have he2 : behindE l b a ≠ 0 := fun q => he (behindE_comm.1 q)
    rw [behindB_bad he, behindB_bad he2]
    have z1 : (behindE l a b != 0) = true := by simpa using he
    have z2 : (behindE l b a != 0) = true := by simpa using he2
    clear he he2
    go_wp2
    go_ret
    exact ⟨rfl, hB3⟩
  have he2 : behindE l b a = 0 := behindE_comm.1 he
  have HE : Hid (behindE l a b = 0) := he
  have HX : Hid (behindB l a b = true → behindB l b a = true → (a != b) = false) := fun q1 q2 => by simp [behind_one q1 q2]
  have HT : Hid (behindE l b c = 0 → behindE l a c = 0 ∧ (behindB l a b = true → behindB l b c = true → behindB l a c = true)) := fun q => behind_trans HE.out q
  have HS : Hid (behindE l a a = 0 ∧ behindB l a a = true) := behind_self he
  rw [he, he2]
  clear he he2
  generalize behindB l a b = X at *
  generalize behindB l b a = Y at *
  go_wp2_with fail
  refine (behind_any p cp l a a w3 (h.below hB3) (hroom.below hB3) hl).mono ?_
  rintro e w4 ⟨rfl, hb4⟩
  rw [HS.out.1, HS.out.2]
  have hB4 := hB3.trans (hb4.mono hB3.size)
  clear hb4 hB3
  cases X with
  | false =>
    go_wp2_with fail
    refine (behind_any p cp l b c w4 (h.below hB4) (hroom.below hB4) hl).mono ?_
    rintro e w5 ⟨rfl, hb5⟩
    have hB5 := hB4.trans (hb5.mono hB4.size)
    clear hb5 hB4
    go_wp2_with fail
    refine (behind_any p cp l a c w5 (h.below hB5) (hroom.below hB5) hl).mono ?_
    rintro e w6 ⟨rfl, hb6⟩
    have hB6 := hB5.trans (hb6.mono hB5.size)
    clear hb6 hB5
    by_cases hbc : behindE l b c = 0
    case neg =>
      have z1 : (behindE l b c != 0) = true := by simpa using hbc
      clear hbc
      go_wp2
      go_ret
      exact ⟨rfl, hB6⟩
    obtain ⟨hac, hxz⟩ := HT.out hbc
    rw [hbc, hac]
    clear hbc hac HT
    generalize behindB l b c = Z at *
    generalize behindB l a c = V at *
    cases Z with
    | false =>
      clear hxz
      go_wp2
      go_ret
      exact ⟨rfl, hB6⟩
    | true =>
      clear hxz
      go_wp2
      go_ret
      exact ⟨rfl, hB6⟩
  | true =>
    cases Y with
    | false =>
      go_wp2_with fail
      refine (behind_any p cp l b c w4 (h.below hB4) (hroom.below hB4) hl).mono ?_
      rintro e w5 ⟨rfl, hb5⟩
      have hB5 := hB4.trans (hb5.mono hB4.size)
      clear hb5 hB4
      go_wp2_with fail
      refine (behind_any p cp l a c w5 (h.below hB5) (hroom.below hB5) hl).mono ?_
      rintro e w6 ⟨rfl, hb6⟩
      have hB6 := hB5.trans (hb6.mono hB5.size)
      clear hb6 hB5
      by_cases hbc : behindE l b c = 0
      case neg =>
        have z1 : (behindE l b c != 0) = true := by simpa using hbc
        clear hbc
        go_wp2
        go_ret
        exact ⟨rfl, hB6⟩
      obtain ⟨hac, hxz⟩ := HT.out hbc
      rw [hbc, hac]
      clear hbc hac HT
      generalize behindB l b c = Z at *
      generalize behindB l a c = V at *
      cases Z with
      | false =>
        clear hxz
        go_wp2
        go_ret
        exact ⟨rfl, hB6⟩
      | true =>
        obtain rfl : V = true := by simpa using hxz
        go_wp2
        go_ret
        exact ⟨rfl, hB6⟩
    | true =>
      have hab := HX.out rfl rfl
      go_wp2_with fail
      refine (behind_any p cp l b c w4 (h.below hB4) (hroom.below hB4) hl).mono ?_
      rintro e w5 ⟨rfl, hb5⟩
      have hB5 := hB4.trans (hb5.mono hB4.size)
      clear hb5 hB4
      go_wp2_with fail
      refine (behind_any p cp l a c w5 (h.below hB5) (hroom.below hB5) hl).mono ?_
      rintro e w6 ⟨rfl, hb6⟩
      have hB6 := hB5.trans (hb6.mono hB5.size)
      clear hb6 hB5
      by_cases hbc : behindE l b c = 0
      case neg =>
        have z1 : (behindE l b c != 0) = true := by simpa using hbc
        clear hbc
        go_wp2
        go_ret
        exact ⟨rfl, hB6⟩
      obtain ⟨hac, hxz⟩ := HT.out hbc
      rw [hbc, hac]
      clear hbc hac HT
      generalize behindB l b c = Z at *
      generalize behindB l a c = V at *
      cases Z with
      | false =>
        clear hxz
        go_wp2
        go_ret
        exact ⟨rfl, hB6⟩
      | true =>
        obtain rfl : V = true := by simpa using hxz
        go_wp2
        go_ret
        exact ⟨rfl, hB6⟩
end Go.Proofs.Ytbppoffhpmoplab
