import Derived.Test.YtehmlpkapjdhkaaF15
namespace Go.Proofs.Ytehmlpkapjdhkaa
open Go.RowKit

set_option maxHeartbeats 4000000 in
theorem walkPart_any (p : Option Addr) (cp : Nat) (l : List Ob) (a2 : Option Addr) (c2 : Nat) (ids : List Int) (old : Int) (w : World) (h : HoldsS w p l) (hroom : Room w p l) (hl : l.length ≤ 9223372036854775807) (h2 : Holds w a2 ids) (hil : ids.length ≤ 9223372036854775807) :
    Calls Try.prog 6 #[.slice p l.length cp, .slice a2 ids.length c2, .int .i64 old] w fun e w' => e = .returned (.bool true) ∧ Below w.heap.size w w' := by
  go_enter Try.func6, Try.ntmps6
  go_wp2_with fail
  refine (part_any p cp l a2 c2 ids w h hl h2 hil).mono ?_
  rintro e w1 ⟨hb1, hP⟩
  by_cases hz : reachE l ids = 0
  case neg =>
    obtain rfl : e = .returned (.tuple #[.slice none 0 0, .int .i64 (reachE l ids)]) := by
      rcases hP with ⟨_, q⟩ | ⟨q, _⟩
      · exact q
      · exact absurd q hz
    clear hP
    have z1 : (reachE l ids != 0) = true := by simpa using hz
    clear hz
    go_wp2_with fail
    refine (walkBegun_any w1).mono ?_
    rintro e w2 ⟨rfl, hb2⟩
    have hB2 := hb1.trans (hb2.mono hb1.size)
    clear hb1 hb2
    go_wp2_with fail
    refine (storeBegun_any w2).mono ?_
    rintro e w3 ⟨rfl, hb3⟩
    have hB3 := hB2.trans (hb3.mono hB2.size)
    clear hb3 hB2
    go_wp2
    go_ret
    exact ⟨rfl, hB3⟩
  obtain ⟨a4, c4, rfl, hp1⟩ : ∃ a' c', e = .returned (.tuple #[.slice a' (partL l ids).length c', .int .i64 0]) ∧ HoldsS w1 a' (partL l ids) := by
    rcases hP with ⟨q, _⟩ | ⟨_, q⟩
    · exact absurd hz q
    · exact q
  clear hP
  have HZ : Hid (reachE l ids = 0) := hz
  have HA : Hid (reachE (partL l ids) ids = 0 ∧ partL (partL l ids) ids = partL l ids) := partL_again hz
  have HR : Hid (checkS (partL l ids) = 0) := partL_right hz
  have h40 : (partL l ids).length ≤ 40 := (checkS_iff.1 HR.out).1
  have HT : Hid (∀ t ∈ ids, 0 ≤ placeI (partL l ids) t) := fun t ht => part_tip HZ.out ht
  have HB : Hid (∀ t ∈ ids, behindB l old t = true → 0 ≤ placeI (partL l ids) old) := fun t ht hb => part_behind HZ.out ht hb
  obtain ⟨m, hm⟩ : ∃ m, m = partL l ids := ⟨_, rfl⟩
  rw [← hm] at hp1 HA HR h40 HT HB
  rw [← hm]
  clear hm hz
  go_wp2_with fail
  refine (walkBegun_any w1).mono ?_
  rintro e w2 ⟨rfl, hb2⟩
  have hB2 := hb1.trans (hb2.mono hb1.size)
  have hp2 := hp1.below hb2
  clear hb1 hb2 hp1
  go_wp2_with fail
  refine (storeBegun_any w2).mono ?_
  rintro e w3 ⟨rfl, hb3⟩
  have hB3 := hB2.trans (hb3.mono hB2.size)
  have hp3 := hp2.below hb3
  clear hb3 hB2 hp2
  go_wp2_with fail
  refine (part_any a4 c4 m a2 c2 ids w3 hp3 (by omega) (h2.below hB3) hil).mono ?_
  rintro e w4 ⟨hb4, ⟨hno, -⟩ | ⟨-, a5, c5, rfl, hq4⟩⟩
  case inl => exact absurd HA.out.1 hno
  rw [HA.out.2] at hq4
  rw [HA.out.2]
  have hB4 := hB3.trans (hb4.mono hB3.size)
  have hp4 := hp3.below hb4
  clear hb4 hB3 hp3
  go_wp2_with fail
  refine (checkS_any a4 c4 m w4 hp4 (by omega)).mono ?_
  rintro e w5 ⟨rfl, hb5⟩
  rw [HR.out]
  have hB5 := hB4.trans (hb5.mono hB4.size)
  have hp5 := hp4.below hb5
  have hq5 := hq4.below hb5
  clear hb5 hB4 hp4 hq4
  go_wp2_with fail
  refine (sameStore_refl a4 c4 a5 c5 m w5 hp5 hq5 (by omega)).mono ?_
  rintro e w6 ⟨rfl, hb6⟩
  have hB6 := hB5.trans (hb6.mono hB5.size)
  have hp6 := hp5.below hb6
  clear hb6 hB5 hp5 hq5
  go_wp2
  go_loopw [11] (fun i wr => ∃ k : Nat, i = .int .i64 k ∧ k ≤ ids.length ∧ Below w6.heap.size w6 wr) (fun i _ => ids.length - (intOf i).toNat)
  case atStart => exact ⟨0, rfl, Nat.zero_le _, Below.refl _ _⟩
  case round =>
    obtain ⟨k, rfl, hk, hB⟩ := hrel
    have hBw := hB6.trans (hB.mono hB6.size)
    by_cases hlt : k < ids.length
    · obtain ⟨b, off, rfl, hb, hc⟩ := h2 k hlt
      have x0 := (hBw.cell (p := ⟨b, off + k, none⟩) hb).trans (hc k hlt)
      have HG : Hid (ids.getD k 0 = ids[k]) := by unfold Hid; simp [hlt]
      have HT1 : Hid (0 ≤ placeI m (ids.getD k 0)) := by unfold Hid; rw [HG.out]; exact HT.out _ (List.getElem_mem hlt)
      have HB1 : Hid (behindB l old (ids.getD k 0) = true → 0 ≤ placeI m old) := by unfold Hid; rw [HG.out]; exact HB.out _ (List.getElem_mem hlt)
      generalize ids.getD k 0 = t at *
      clear hc
      go_wp2_with fail
      refine (behind_any p cp l old t wr (h.below hBw) (hroom.below hBw) hl).mono ?_
      rintro e w8 ⟨rfl, hb8⟩
      have hB8 := hB.trans (hb8.mono hB.size)
      have x8 := (hb8.cell (p := ⟨b, off + k, none⟩) (Nat.lt_of_lt_of_le hb hBw.size)).trans x0
      clear hb8 hB hBw x0
      go_wp2_with fail
      refine (objectAt_any a4 c4 m t w8 (hp6.below hB8) (by omega)).mono ?_
      rintro e w9 ⟨rfl, hb9⟩
      have hB9 := hB8.trans (hb9.mono hB8.size)
      have z1 : decide (placeI m t < 0) = false := by have := HT1.out; simp; omega
      clear hb9 hB8 x8
      have hn1 : 0 ≤ placeI m t := HT1.out
      generalize placeI m t = q1 at *
      by_cases hE : behindE l old t = 0
      case neg =>
        have z2 : (behindE l old t == 0) = false := by simpa using hE
        clear hE
        go_wp2
        go_roundw
        case rel => exact ⟨k + 1, by go_num, by omega, hB9⟩
        case measure => simp [intOf]; omega
      rw [hE]
      generalize behindB l old t = X at *
      cases X with
      | false =>
        go_wp2
        go_roundw
        case rel => exact ⟨k + 1, by go_num, by omega, hB9⟩
        case measure => simp [intOf]; omega
      | true =>
        have hn2 : 0 ≤ placeI m old := by simpa using HB1.out
        go_wp2_with fail
        refine (objectAt_any a4 c4 m old w9 (hp6.below hB9) (by omega)).mono ?_
        rintro e w10 ⟨rfl, hb10⟩
        have hB10 := hB9.trans (hb10.mono hB9.size)
        have z3 : decide (placeI m old < 0) = false := by simp; omega
        generalize placeI m old = q2 at *
        clear hb10 hB9
        go_wp2
        go_roundw
        case rel => exact ⟨k + 1, by go_num, by omega, hB10⟩
        case measure => simp [intOf]; omega
    · go_wp2
      go_ret
      exact ⟨rfl, hBw⟩
end Go.Proofs.Ytehmlpkapjdhkaa
