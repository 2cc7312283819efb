import Derived.Test.YtehmlpkapjdhkaaGreatDoorMZ
import Derived.Test.YtehmlpkapjdhkaaGreatDoorMX10
namespace Go.Proofs.YtehmlpkapjdhkaaGreatDoor
open Go.RowKit
set_option maxRecDepth 100000

theorem checkL_self {l m : List Rf} (h : checkL l m = 0) : checkL l l = 0 := by
  obtain ⟨q1, _, q3, q4, _⟩ := checkL_zero.1 h
  exact checkL_zero.2 ⟨q1, q1, fun r hr => q3 r (by rcases List.mem_append.1 hr with c | c <;> exact List.mem_append_left _ c), q4, q4⟩

set_option maxHeartbeats 4000000 in
theorem diffLeads_any (a1 : Option Addr) (c1 : Nat) (l : List Rf) (a2 : Option Addr) (c2 : Nat) (m : List Rf) (ao : Option Addr) (co : Nat) (o : List Ob) (w : World) (hg : Glob w) (h1 : HoldsR w a1 l) (hl : l.length ≤ 9223372036854775807) (h2 : HoldsR w a2 m) (hm : m.length ≤ 9223372036854775807)
    (ho : HoldsS w ao o) (hroom : Room w ao o) (hol : o.length ≤ 9223372036854775807) (hoc : o.length ≤ co) :
    Calls Tryz.prog 5 #[.slice a1 l.length c1, .slice a2 m.length c2, .slice ao o.length co] w fun e w' => e = .returned (.bool true) ∧ Below w.heap.size w w' := by
  go_enter Tryz.func5, Tryz.ntmps5
  go_wp2_with fail
  refine (drefs_any a1 c1 l a2 c2 m w hg h1 h2).mono ?_
  rintro e w1 ⟨hb1, hP⟩
  rcases hP with ⟨hz, rfl⟩ | ⟨hz, ns, a3, c3, rfl, hN, hU, hlen, -⟩
  · have z1 : (checkL l m != 0) = true := by simpa using hz
    clear hz
    go_wp2_with fail
    refine (diffBegun_any w1 (hg.below hb1)).mono ?_
    rintro e w2 ⟨rfl, hb2⟩
    have hB2 := hb1.trans (hb2.mono hb1.size)
    clear hb1 hb2
    go_wp2_with fail
    refine (updateBegun_any w2 (hg.below hB2)).mono ?_
    rintro e w3 ⟨rfl, hb3⟩
    have hB3 := hB2.trans (hb3.mono hB2.size)
    clear hb3 hB2
    go_wp2
    go_ret
    exact ⟨rfl, hB3⟩
  obtain ⟨L, hL⟩ : ∃ L, L = leadL l m ns := ⟨_, rfl⟩
  have HZ : Hid (checkL l m = 0) := hz
  have HNil : Hid (L = [] ↔ l = m) := by unfold Hid; rw [hL]; exact lead_nil hz hN
  have HAp : Hid (∀ (_ : refsE l o = 0) (_ : refsE m o = 0) (_ : L ≠ []) (_ : L.length ≤ 4), applyE m o L true = 0 ∧ runL m L = l) := fun e1 e2 e3 e4 => by rw [hL] at e3 e4 ⊢; exact lead_apply hz hN e1 e2 e3 e4
  rw [← hL] at hU hlen ⊢
  clear hL hN hz
  go_wp2_with fail
  refine (diffBegun_any w1 (hg.below hb1)).mono ?_
  rintro e w2 ⟨rfl, hb2⟩
  have hB2 := hb1.trans (hb2.mono hb1.size)
  have hU2 := hU.below hb2
  clear hb1 hb2 hU
  go_wp2_with fail
  refine (updateBegun_any w2 (hg.below hB2)).mono ?_
  rintro e w3 ⟨rfl, hb3⟩
  have hB3 := hB2.trans (hb3.mono hB2.size)
  have hU3 := hU2.below hb3
  clear hb3 hB2 hU2
  go_wp2_with fail
  refine (drefs_any a1 c1 l a1 c1 l w3 (hg.below hB3) (h1.below hB3) (h1.below hB3)).mono ?_
  rintro e w4 ⟨hb4, hQ⟩
  obtain ⟨ns', a5, c5, rfl⟩ : ∃ ns' a5 c5, e = .returned (.tuple #[.slice a5 (leadL l l ns').length c5, .int .i64 0]) := by
    rcases hQ with ⟨q, _⟩ | ⟨_, ns', a5, c5, q, _⟩
    · exact absurd (checkL_self HZ.out) q
    · exact ⟨ns', a5, c5, q⟩
  rw [lead_self, List.length_nil]
  have hB4 := hB3.trans (hb4.mono hB3.size)
  have hU4 := hU3.below hb4
  clear hb4 hB3 hU3 hQ
  by_cases hne : L.length = 0
  · have hL0 : L = [] := List.eq_nil_of_length_eq_zero hne
    have HE : Hid (l = m) := HNil.out.1 hL0
    subst hL0
    go_wp2_with fail
    refine (sameRefs_any a1 c1 l a2 c2 m w4 (h1.below hB4) (h2.below hB4) hl).mono ?_
    rintro e w5 ⟨r, rfl, hr, hb5⟩
    obtain rfl : r = true := hr.2 HE.out
    have hB5 := hB4.trans (hb5.mono hB4.size)
    clear hr hb5 hB4
    go_wp2
    go_ret
    exact ⟨rfl, hB5⟩
  have hne' : L ≠ [] := fun e => hne (by rw [e]; rfl)
  have z0 : ((L.length : Int) == 0) = false := by simpa using hne'
  have HNE : Hid (L ≠ []) := hne'
  clear hne hne'
  go_wp2_with fail
  refine (sameRefs_any a1 c1 l a2 c2 m w4 (h1.below hB4) (h2.below hB4) hl).mono ?_
  rintro e w5 ⟨r, rfl, hr, hb5⟩
  obtain rfl : r = false := by
    cases r with
    | false => rfl
    | true => exact absurd (HNil.out.2 (hr.1 rfl)) HNE.out
  have hB5 := hB4.trans (hb5.mono hB4.size)
  have hU5 := hU4.below hb5
  clear hr hb5 hB4 hU4
  by_cases h4 : (4 : Int) < (L.length : Int)
  · go_wp2
    go_ret
    exact ⟨rfl, hB5⟩
  have h4' : (L.length : Int) ≤ 4 := by omega
  go_wp2_with fail
  refine (checkRefsR_any a1 c1 l ao co o w5 (h1.below hB5) hl (ho.below hB5) hol hoc).mono ?_
  rintro e w6 ⟨⟨r6, rfl, h6⟩, hb6⟩
  have hB6 := hB5.trans (hb6.mono hB5.size)
  have hU6 := hU5.below hb6
  clear hb6 hB5 hU5
  by_cases q6 : r6 = 0
  case neg =>
    have z6 : (r6 != 0) = true := by simpa using q6
    clear q6 h6
    go_wp2
    go_ret
    exact ⟨rfl, hB6⟩
  have H6 : Hid (checkS o = 0 ∧ IdsOk o l l.length ∧ ∀ x ∈ l, ∀ y ∈ l, isInB x.name y.name = false) := h6 q6
  subst q6
  clear h6
  go_wp2_with fail
  refine (checkRefsR_any a2 c2 m ao co o w6 (h2.below hB6) hm (ho.below hB6) hol hoc).mono ?_
  rintro e w7 ⟨⟨r7, rfl, h7⟩, hb7⟩
  have hB7 := hB6.trans (hb7.mono hB6.size)
  have hU7 := hU6.below hb7
  clear hb7 hB6 hU6
  by_cases q7 : r7 = 0
  case neg =>
    have z7 : (r7 != 0) = true := by simpa using q7
    clear q7 h7
    go_wp2
    go_ret
    exact ⟨rfl, hB7⟩
  have H7 : Hid (checkS o = 0 ∧ IdsOk o m m.length ∧ ∀ x ∈ m, ∀ y ∈ m, isInB x.name y.name = false) := h7 q7
  subst q7
  clear h7
  have HA : Hid (applyE m o L true = 0 ∧ runL m L = l) := HAp.out (refsE_ok2 H6.out.1 HZ.out H6.out.2.1 H6.out.2.2) (refsE_ok3 H7.out.1 HZ.out H7.out.2.1 H7.out.2.2) HNE.out (by omega)
  have hap := apply_any a2 c2 m ao co o a3 c3 L true w7 (hg.below hB7) (h2.below hB7) hm (ho.below hB7) (hroom.below hB7) hol hU7 (by omega)
  clear HAp HNil
  go_wp2_with fail
  refine hap.mono ?_
  clear hap
  rintro e w8 ⟨hb8, ⟨hno, -⟩ | ⟨-, a4, c4, rfl, h8, -⟩⟩
  case inl => exact absurd HA.out.1 hno
  rw [HA.out.2] at h8 ⊢
  have hB8 := hB7.trans (hb8.mono hB7.size)
  clear hb8 hB7 hU7
  go_wp2_with fail
  refine (sameRefs_any a4 c4 l a1 c1 l w8 h8 (h1.below hB8) hl).mono ?_
  rintro e w9 ⟨r, rfl, hr, hb9⟩
  obtain rfl : r = true := hr.2 rfl
  have hB9 := hB8.trans (hb9.mono hB8.size)
  clear hr hb9 hB8
  go_wp2
  go_ret
  exact ⟨rfl, hB9⟩
end Go.Proofs.YtehmlpkapjdhkaaGreatDoor
