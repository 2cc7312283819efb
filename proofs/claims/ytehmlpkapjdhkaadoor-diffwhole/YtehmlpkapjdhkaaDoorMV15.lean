import Derived.Test.YtehmlpkapjdhkaaDoorMX1
import Derived.Test.YtehmlpkapjdhkaaDoorMX3
import Derived.Test.YtehmlpkapjdhkaaDoorMX4
namespace Go.Proofs.YtehmlpkapjdhkaaDoor
open Go.RowKit
set_option maxRecDepth 100000

set_option maxHeartbeats 4000000 in
theorem diffWhole_any (a1 : Option Addr) (c1 : Nat) (a : List Ob) (a2 : Option Addr) (c2 : Nat) (b : List Ob) (w : World) (hg : Glob w) (h1 : HoldsS w a1 a) (hl1 : a.length ≤ 9223372036854775807) (h2 : HoldsS w a2 b) (hl2 : b.length ≤ 9223372036854775807) :
    Calls Tryd.prog 3 #[.slice a1 a.length c1, .slice a2 b.length c2] w fun e w' => e = .returned (.bool true) ∧ Below w.heap.size w w' := by
  go_enter Tryd.func3, Tryd.ntmps3
  go_wp2_with fail
  refine (diffObjects_any a1 c1 a a2 c2 b w h1 hl1 h2 hl2).mono ?_
  rintro e w1 ⟨hb1, hP⟩
  rcases hP with ⟨hz, rfl⟩ | ⟨hz, v, rs, rfl, hrs, O⟩
  · have z1 : (diffE a b != 0) = true := by simpa using hz
    have z2 : (diffE a b == 0) = false := by simpa using hz
    clear hz
    go_wp2_with fail
    refine (diffBegun_any w1 (hg.below hb1)).mono ?_
    rintro e w2 ⟨rfl, hb2⟩
    have hB2 := hb1.trans (hb2.mono hb1.size)
    clear hb1 hb2
    go_wp2_with fail
    refine (storeBegun_any w2).mono ?_
    rintro e w3 ⟨rfl, hb3⟩
    have hB3 := hB2.trans (hb3.mono hB2.size)
    clear hb3 hB2
    go_wp2
    go_ret
    exact ⟨rfl, hB3⟩
  obtain ⟨ha, hb, hd⟩ := diffE_zero.1 hz
  obtain ⟨e0, f0, rfl, hL, -⟩ := O.reads
  rw [hrs] at hL ⊢
  clear O hrs
  have ha40 : (a.length : Int) ≤ 40 := by have := (checkS_iff.1 ha).1; omega
  have hb40 : (b.length : Int) ≤ 40 := by have := (checkS_iff.1 hb).1; omega
  have hm40 : (missL a b).length ≤ 40 := by have := missL_length a b; omega
  have HA : Hid ((missL a b).length ≤ 12 → addE b (missL a b) = 0 ∨ (addE b (missL a b) = 2 ∧ 40 < a.length + b.length)) := fun q => union_add ha hb hd q
  have HU : Hid (checkS (takeRes b (missL a b)) = 0 → (diffE a (takeRes b (missL a b)) = 0 ∧ missL a (takeRes b (missL a b)) = []) ∧ (diffE b (takeRes b (missL a b)) = 0 ∧ missL b (takeRes b (missL a b)) = []) ∧
      diffE (takeRes b (missL a b)) b = 0 ∧ missL (takeRes b (missL a b)) b = missL a b) := fun q => union_diff ha hb hd q
  obtain ⟨M, hM⟩ : ∃ M, M = missL a b := ⟨_, rfl⟩
  rw [← hM] at hL hm40 HA HU ⊢
  clear hM hz ha hb hd
  go_wp2_with fail
  refine (diffBegun_any w1 (hg.below hb1)).mono ?_
  rintro e w2 ⟨rfl, hb2⟩
  have hB2 := hb1.trans (hb2.mono hb1.size)
  have hL2 := hL.below hb2
  clear hb1 hb2 hL
  go_wp2_with fail
  refine (storeBegun_any w2).mono ?_
  rintro e w3 ⟨rfl, hb3⟩
  have hB3 := hB2.trans (hb3.mono hB2.size)
  have hL3 := hL2.below hb3
  clear hb3 hB2 hL2
  by_cases h12 : (12 : Int) < (M.length : Int)
  · go_wp2
    go_ret
    exact ⟨rfl, hB3⟩
  have h12' : (M.length : Int) ≤ 12 := by omega
  go_wp2_with fail
  refine (add_any a2 c2 b e0 f0 M w3 (h2.below hB3) hl2 hL3 (by omega)).mono ?_
  rintro e w4 ⟨hb4, hQ⟩
  have hB4 := hB3.trans (hb4.mono hB3.size)
  have hL4 := hL3.below hb4
  clear hb4 hB3 hL3
  rcases HA.out (by omega) with q | ⟨q, hsum⟩
  case inr =>
    obtain rfl : e = .returned (.tuple #[.slice none 0 0, .int .i64 2]) := by
      rcases hQ with ⟨_, r⟩ | ⟨r, _⟩
      · rw [q] at r; exact r
      · rw [q] at r; cases r
    have hs : (40 : Int) < (a.length : Int) + (b.length : Int) := by omega
    clear hQ q HA HU
    go_wp2
    go_ret
    exact ⟨rfl, hB4⟩
  obtain ⟨a5, c5, rfl, h5⟩ : ∃ a5 c5, e = .returned (.tuple #[.slice a5 (takeRes b M).length c5, .int .i64 0]) ∧ HoldsS w4 a5 (takeRes b M) := by
    rcases hQ with ⟨r, _⟩ | ⟨_, a5, c5, r, h5, _⟩
    · exact absurd q r
    · exact ⟨a5, c5, r, h5⟩
  have hu := (addE_zero q).2.2.2.2
  obtain ⟨⟨d1, m1⟩, ⟨d2, m2⟩, d3, m3⟩ := HU.out hu
  have hu40 : (takeRes b M).length ≤ 40 := (checkS_iff.1 hu).1
  obtain ⟨U, hU⟩ : ∃ U, U = takeRes b M := ⟨_, rfl⟩
  rw [← hU] at h5 d1 m1 d2 m2 d3 m3 hu40 ⊢
  have D1 : Hid (diffE a U = 0) := d1
  have D2 : Hid (diffE b U = 0) := d2
  have D3 : Hid (diffE U b = 0) := d3
  have M1 : Hid (missL a U = []) := m1
  have M2 : Hid (missL b U = []) := m2
  have M3 : Hid (missL U b = M) := m3
  clear hQ q hu hU HA HU d1 m1 d2 m2 d3 m3
  go_wp2_with fail
  refine (diffObjects_any a1 c1 a a5 c5 U w4 (h1.below hB4) hl1 h5 (by omega)).mono ?_
  rintro e w5 ⟨hb5, ⟨hne, -⟩ | ⟨-, v5, r5, rfl, hr5, O5⟩⟩
  · exact absurd D1.out hne
  obtain ⟨x0, x1, rfl, -⟩ := O5.reads
  rw [hr5, M1.out, List.length_nil]
  have hB5 := hB4.trans (hb5.mono hB4.size)
  have hL5 := hL4.below hb5
  have hU5 := h5.below hb5
  clear hb5 hB4 hL4 h5 O5 hr5
  go_wp2_with fail
  refine (diffObjects_any a2 c2 b a5 c5 U w5 (h2.below hB5) hl2 hU5 (by omega)).mono ?_
  rintro e w6 ⟨hb6, ⟨hne, -⟩ | ⟨-, v6, r6, rfl, hr6, O6⟩⟩
  · exact absurd D2.out hne
  obtain ⟨y0, y1, rfl, -⟩ := O6.reads
  rw [hr6, M2.out, List.length_nil]
  have hB6 := hB5.trans (hb6.mono hB5.size)
  have hL6 := hL5.below hb6
  have hU6 := hU5.below hb6
  clear hb6 hB5 hL5 hU5 O6 hr6
  go_wp2_with fail
  refine (diffObjects_any a5 c5 U a2 c2 b w6 hU6 (by omega) (h2.below hB6) hl2).mono ?_
  rintro e w7 ⟨hb7, ⟨hne, -⟩ | ⟨-, v7, r7, rfl, hr7, O7⟩⟩
  · exact absurd D3.out hne
  obtain ⟨z0, z1, rfl, h7, -⟩ := O7.reads
  rw [hr7, M3.out] at h7 ⊢
  have hB7 := hB6.trans (hb7.mono hB6.size)
  have hL7 := hL6.below hb7
  clear hb7 hB6 hL6 hU6 O7 hr7
  go_wp2_with fail
  refine (sameStore_refl z0 z1 e0 f0 M w7 h7 hL7 (by omega)).mono ?_
  rintro e w8 ⟨rfl, hb8⟩
  have hB8 := hB7.trans (hb8.mono hB7.size)
  clear hb8 hB7
  go_wp2
  go_ret
  exact ⟨rfl, hB8⟩
end Go.Proofs.YtehmlpkapjdhkaaDoor
