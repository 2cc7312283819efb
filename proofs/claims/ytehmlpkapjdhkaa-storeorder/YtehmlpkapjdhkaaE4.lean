import Derived.Test.YtehmlpkapjdhkaaE3
import Derived.Test.YtehmlpkapjdhkaaX25
namespace Go.Proofs.Ytehmlpkapjdhkaa
open Go.RowKit

set_option maxHeartbeats 800000 in
theorem storeOrder_out (a : Option Addr) (c : Nat) (l : List Ob) (a2 : Option Addr) (c2 : Nat) (m : List Ob) (n : Int) (w : World) (hn : n < 0 ∨ (m.length : Int) < n) :
    Calls Try.prog 5 #[.slice a l.length c, .slice a2 m.length c2, .int .i64 n] w fun e w' => e = .returned (.bool true) ∧ Below w.heap.size w w' := by
  go_enter Try.func5, Try.ntmps5
  go_wp2_with fail
  refine (storeBegun_any w).mono ?_
  rintro e w1 ⟨rfl, hb1⟩
  by_cases h0 : n < 0
  · have hd0 : decide (n < 0) = true := by simpa using h0
    go_wp2
    go_ret
    exact ⟨rfl, hb1⟩
  · have hd0 : decide (n < 0) = false := by simpa using h0
    have h1 : (m.length : Int) < n := by omega
    have hd1 : decide ((m.length : Int) < n) = true := by simpa using h1
    go_wp2
    go_ret
    exact ⟨rfl, hb1⟩

set_option maxHeartbeats 2000000 in
theorem storeOrder_in (a : Option Addr) (c : Nat) (l : List Ob) (a2 : Option Addr) (c2 : Nat) (m : List Ob) (n : Nat) (w : World) (h : HoldsS w a l) (hl : l.length ≤ 9223372036854775807) (h2 : HoldsS w a2 m) (hm : m.length * 56 ≤ 140737488355328) (hmc : m.length ≤ c2) (hnm : n ≤ m.length) :
    Calls Try.prog 5 #[.slice a l.length c, .slice a2 m.length c2, .int .i64 n] w fun e w' => e = .returned (.bool true) ∧ Below w.heap.size w w' := by
  have hn0 : ¬ (n : Int) < 0 := by omega
  have hn1 : ¬ (m.length : Int) < (n : Int) := by omega
  have hm63 : (m.length : Int) ≤ 9223372036854775807 := by omega
  go_enter Try.func5, Try.ntmps5
  go_wp2_with fail
  refine (storeBegun_any w).mono ?_
  rintro e w1 ⟨rfl, hb1⟩
  have h21 := h2.below hb1
  go_wp2
  go_loopw [7, 8] (fun v i wr => ∃ j k : Nat, j + k = m.length ∧ i = .int .i64 ((j : Int) - 1) ∧ Turned w1 m k v wr) (fun _ i _ => (intOf i + 1).toNat)
  case atStart => exact ⟨m.length, 0, by omega, rfl, [], rfl, rfl, World.ownsRow_nil _ _ _ _, (fun r (hr : r ∈ []) => by cases hr), Below.refl _ _⟩
  case round =>
    obtain ⟨j, k, hjk, rfl, HT⟩ := hrel
    cases j with
    | zero =>
      obtain rfl : k = m.length := by omega
      obtain ⟨a3, c3, rfl, h3⟩ := HT.reads
      obtain ⟨_, _, _, _, _, hbT⟩ := HT
      have hB := hb1.trans (hbT.mono hb1.size)
      clear hbT h21 hb1 hjk
      rw [show (((0 : Nat) : Int) - 1) = -1 by rfl]
      have hl1 := h.below hB
      have hm1 := h2.below hB
      have hrl : m.reverse.length ≤ 9223372036854775807 := by rw [List.length_reverse]; omega
      have hm64 : m.length ≤ 9223372036854775807 := by omega
      obtain ⟨m', hm'⟩ : ∃ m', m' = m.reverse := ⟨_, rfl⟩
      have HM : Hid (m' = m.reverse) := hm'
      rw [← hm'] at h3 hrl
      rw [← hm']
      clear hm'
      go_wp2_with fail
      refine (add_any a c l a2 c2 m wr hl1 hl hm1 hm64).mono ?_
      rintro e w2 ⟨hb2, hA2⟩
      have hB2 := hB.trans (hb2.mono hB.size)
      have h32 := h3.below hb2
      clear h3 hb2 hB hl1 hm1
      have hl2 := h.below hB2
      rcases hA2 with ⟨hne, rfl⟩ | ⟨hz, a', c', rfl, hA2, -⟩
      · have hnr : addE l m' ≠ 0 := fun q => hne (by rw [HM.out] at q; exact add_turned.1.2 q)
        go_wp2_with fail
        refine (add_any a c l a3 c3 m' w2 hl2 hl h32 hrl).mono ?_
        rintro e w3 ⟨hb3, ⟨-, rfl⟩ | ⟨hno, _⟩⟩
        case inr => exact absurd hno hnr
        have hB3 := hB2.trans (hb3.mono hB2.size)
        clear hb3 h32 hl2 hB2
        have hz1 : (addE l m == 0) = false := by simpa using hne
        have hz2 : (addE l m' == 0) = false := by simpa using hnr
        have hz3 : (addE l m != 0) = true := by simpa using hne
        clear hne hnr
        go_wp2_with fail
        have hS := sameStore_refl none 0 none 0 [] w3 (fun i hi => by simp at hi) (fun i hi => by simp at hi) (by simp)
        refine hS.mono ?_
        clear hS
        rintro e w4 ⟨rfl, hb4⟩
        have hB4 := hB3.trans (hb4.mono hB3.size)
        clear hb4 hB3
        have hl4 := h.below hB4
        have hm4 := holds_take (h2.below hB4) n
        have hnl : (m.take n).length = n := by rw [List.length_take]; omega
        have hA := add_any a c l a2 c2 (m.take n) w4 hl4 hl hm4 (by omega)
        rw [hnl] at hA
        go_wp2_with fail
        refine hA.mono ?_
        clear hA hl4 hm4
        rintro e w5 ⟨hb5, hA5⟩
        have hB5 := hB4.trans (hb5.mono hB4.size)
        clear hb5 hB4
        obtain ⟨r1, r2, rfl⟩ : ∃ (r1 : Option Addr × Nat × Nat) (r2 : Int), e = .returned (.tuple #[.slice r1.1 r1.2.1 r1.2.2, .int .i64 r2]) := by
          rcases hA5 with ⟨_, q⟩ | ⟨_, a', c', q, _⟩
          · exact ⟨(none, 0, 0), _, q⟩
          · exact ⟨(a', _, c'), _, q⟩
        clear hA5
        go_wp2
        go_ret
        exact ⟨rfl, hB5⟩
      · have hzr : addE l m' = 0 ∧ takeRes l m' = takeRes l m := by rw [HM.out]; exact ⟨add_turned.1.1 hz, add_turned.2 hz⟩
        have HZ : Hid (addE l m = 0) := hz
        have HZR : Hid (takeRes l m' = takeRes l m) := hzr.2
        have HAL : Hid (addE l m' = 0) := hzr.1
        have hAl : (takeRes l m).length ≤ 9223372036854775807 := by have := takeRes_length m l; have := (checkS_zero (addE_zero hz).1).1; omega
        obtain ⟨A, hAe⟩ : ∃ A, A = takeRes l m := ⟨_, rfl⟩
        have HA : Hid (A = takeRes l m) := hAe
        rw [← hAe] at hA2 hAl
        rw [← hAe]
        clear hz hzr hAe
        go_wp2_with fail
        refine (add_any a c l a3 c3 m' w2 hl2 hl h32 hrl).mono ?_
        rintro e w3 ⟨hb3, ⟨hno, -⟩ | ⟨-, a4, c4, rfl, hA3, -⟩⟩
        case inl => exact absurd HAL.out hno
        rw [HZR.out, ← HA.out] at hA3
        have HRL : (takeRes l m').length = A.length := by rw [HZR.out, ← HA.out]
        rw [HRL]
        clear HRL
        have hB3 := hB2.trans (hb3.mono hB2.size)
        have hA23 := hA2.below hb3
        clear hb3 h32 hl2 hB2 hA2
        go_wp2_with fail
        refine (sameStore_refl a' c' a4 c4 A w3 hA23 hA3 hAl).mono ?_
        rintro e w4 ⟨rfl, hb4⟩
        have hB4 := hB3.trans (hb4.mono hB3.size)
        have hA4 := hA23.below hb4
        clear hb4 hB3 hA23 hA3
        have hl4 := h.below hB4
        have hm4 := holds_take (h2.below hB4) n
        have hnl : (m.take n).length = n := by rw [List.length_take]; omega
        have hAd := add_any a c l a2 c2 (m.take n) w4 hl4 hl hm4 (by omega)
        rw [hnl] at hAd
        go_wp2_with fail
        refine hAd.mono ?_
        clear hAd hl4 hm4
        rintro e w5 ⟨hb5, ⟨hno, rfl⟩ | ⟨hz5, a5, c5, rfl, hA5, -⟩⟩
        · have hB5 := hB4.trans (hb5.mono hB4.size)
          have hz3 : (addE l (m.take n) != 0) = true := by simpa using hno
          clear hb5 hB4 hA4 hno
          go_wp2
          go_ret
          exact ⟨rfl, hB5⟩
        · have hB5 := hB4.trans (hb5.mono hB4.size)
          have hA45 := hA4.below hb5
          obtain ⟨p1, p2⟩ := add_parts n HZ.out hz5
          have hCl : (takeRes l (m.take n)).length ≤ 9223372036854775807 := by have := takeRes_length (m.take n) l; have := (checkS_zero (addE_zero HZ.out).1).1; omega
          clear hb5 hB4 hA4
          have hm5 := holds_drop (h2.below hB5) n c2 hmc
          have hAd := add_any a5 c5 (takeRes l (m.take n)) _ (c2 - n) (m.drop n) w5 hA5 hCl hm5 (by rw [List.length_drop]; omega)
          rw [List.length_drop] at hAd
          have HP : Hid (addE (takeRes l (m.take n)) (m.drop n) = 0 ∧ takeRes (takeRes l (m.take n)) (m.drop n) = A) := ⟨p1, by rw [HA.out]; exact p2⟩
          clear hm5 p1 p2 hz5
          have hnc : (n : Int) ≤ (c2 : Int) := by omega
          by_cases hcn : c2 = n
          · rw [if_pos hcn, show c2 - n = 0 by omega] at hAd
            go_wp2_with fail
            refine hAd.mono ?_
            clear hAd
            rintro e w6 ⟨hb6, ⟨hno, -⟩ | ⟨-, a6, c6, rfl, hA6, -⟩⟩
            case inl => exact absurd HP.out.1 hno
            rw [HP.out.2] at hA6
            rw [HP.out.2]
            have hB6 := hB5.trans (hb6.mono hB5.size)
            have hA46 := hA45.below hb6
            clear hb6 hB5 hA45 hA5
            go_wp2_with fail
            refine (sameStore_refl a' c' a6 c6 A w6 hA46 hA6 hAl).mono ?_
            rintro e w7 ⟨rfl, hb7⟩
            have hB7 := hB6.trans (hb7.mono hB6.size)
            clear hb7 hB6 hA46 hA6
            go_wp2
            go_ret
            exact ⟨rfl, hB7⟩
          · rw [if_neg hcn] at hAd
            go_wp2_with fail
            refine hAd.mono ?_
            clear hAd
            rintro e w6 ⟨hb6, ⟨hno, -⟩ | ⟨-, a6, c6, rfl, hA6, -⟩⟩
            case inl => exact absurd HP.out.1 hno
            rw [HP.out.2] at hA6
            rw [HP.out.2]
            have hB6 := hB5.trans (hb6.mono hB5.size)
            have hA46 := hA45.below hb6
            clear hb6 hB5 hA45 hA5
            go_wp2_with fail
            refine (sameStore_refl a' c' a6 c6 A w6 hA46 hA6 hAl).mono ?_
            rintro e w7 ⟨rfl, hb7⟩
            have hB7 := hB6.trans (hb7.mono hB6.size)
            clear hb7 hB6 hA46 hA6
            go_wp2
            go_ret
            exact ⟨rfl, hB7⟩
    | succ j =>
      obtain ⟨b, off, rfl, hb, hcc⟩ := h21 j (by omega)
      obtain ⟨sa, sc, x0, x1, x2, x3, x4, x5⟩ := hcc j (by omega)
      have hBT : Below w1.heap.size w1 wr := by obtain ⟨_, _, _, _, _, hbT⟩ := HT; exact hbT
      have y0 := (hBT.cell (p := ⟨b, off + j * 4, none⟩) hb).trans x0
      have y1 := (hBT.cell (p := ⟨b, off + j * 4 + 1, none⟩) hb).trans x1
      have y2 := (hBT.cell (p := ⟨b, off + j * 4 + 2, none⟩) hb).trans x2
      have y3 := (hBT.cell (p := ⟨b, off + j * 4 + 3, none⟩) hb).trans x3
      obtain ⟨v', w', hr, HN⟩ := HT.next (j := j) (by omega) hm sa sc x4 x5 22
      clear hcc x0 x1 x2 x3 x4 x5 hBT HT h21
      have hjm : (j : Int) < (m.length : Int) := by omega
      rw [show (((j + 1 : Nat) : Int) - 1) = j by omega]
      go_wp2_with (show wpList _ _ _ ({dst := some 38, op := _, type := _, pos := _, after := _, guard := _} :: _) _ _; refine id ?roundEnd)
      refine wpList_append_runs rfl (.tmp 32) (.tmp 37) rfl _ _ (by rfl) (by rfl) hr ?go
      simp only [Act.put, List.setIfInBounds_toArray, List.set_cons_zero, List.set_cons_succ]
      clear hr y0 y1 y2 y3
      go_wp2
      go_roundw
      case rel => exact ⟨j, k + 1, by omega, by go_num, HN⟩
      case measure => simp [intOf] <;> omega

theorem storeOrder_any (a : Option Addr) (c : Nat) (l : List Ob) (a2 : Option Addr) (c2 : Nat) (m : List Ob) (n : Int) (w : World) (h : HoldsS w a l) (hl : l.length ≤ 9223372036854775807) (h2 : HoldsS w a2 m) (hm : m.length * 56 ≤ 140737488355328) (hmc : m.length ≤ c2) :
    Calls Try.prog 5 #[.slice a l.length c, .slice a2 m.length c2, .int .i64 n] w fun e w' => e = .returned (.bool true) ∧ Below w.heap.size w w' := by
  by_cases hn : n < 0 ∨ (m.length : Int) < n
  · exact storeOrder_out a c l a2 c2 m n w hn
  · have := storeOrder_in a c l a2 c2 m n.toNat w h hl h2 hm hmc (by omega)
    rwa [show (n.toNat : Int) = n by omega] at this
end Go.Proofs.Ytehmlpkapjdhkaa
