import Derived.Test.YtehmlpkapjdhkaaD18
import Derived.Test.YtehmlpkapjdhkaaX25
import Derived.Test.YtehmlpkapjdhkaaD22
namespace Go.Proofs.Ytehmlpkapjdhkaa
open Go.RowKit

set_option maxHeartbeats 800000 in
theorem storeKeeps_err (a : Option Addr) (c : Nat) (l : List Ob) (a2 : Option Addr) (c2 : Nat) (m : List Ob) (w : World) (h : HoldsS w a l) (hl : l.length ≤ 9223372036854775807) (h2 : HoldsS w a2 m) (hm : m.length ≤ 9223372036854775807) (he : addE l m ≠ 0) :
    Calls Try.prog 4 #[.slice a l.length c, .slice a2 m.length c2] w fun e w' => e = .returned (.bool true) ∧ Below w.heap.size w w' := by
  have hz : (addE l m != 0) = true := by simpa using he
  go_enter Try.func4, Try.ntmps4
  go_wp2_with fail
  refine (add_any a c l a2 c2 m w h hl h2 hm).mono ?_
  rintro e w1 ⟨hb1, ⟨_, rfl⟩ | ⟨hno, _⟩⟩
  case inr => exact absurd hno he
  clear he
  go_wp2_with fail
  refine (storeBegun_any w1).mono ?_
  rintro e w2 ⟨rfl, hb2⟩
  have hB2 := hb1.trans (hb2.mono hb1.size)
  clear hb1 hb2
  go_wp2
  go_ret
  exact ⟨rfl, hB2⟩

set_option maxHeartbeats 2000000 in
theorem storeKeeps_ok (a : Option Addr) (c : Nat) (l : List Ob) (a2 : Option Addr) (c2 : Nat) (m : List Ob) (w : World) (h : HoldsS w a l) (hnil : a = none → c = 0) (h2 : HoldsS w a2 m) (hnil2 : a2 = none → c2 = 0) (HE : Hid (addE l m = 0)) :
    Calls Try.prog 4 #[.slice a l.length c, .slice a2 m.length c2] w fun e w' => e = .returned (.bool true) ∧ Below w.heap.size w w' := by
  obtain ⟨q1, q2, q3, q4, q5⟩ := addE_zero HE.out
  have hl40 : l.length ≤ 40 := (checkS_zero q1).1
  have hlk : ∀ x ∈ l ++ m, x.links.length ≤ 1000 := fun x hx => by
    rcases List.mem_append.1 hx with q | q
    · exact err_links (checkS_err q1 x q)
    · exact err_links (eachE_all q3 x q)
  have HC : Hid (checkS (takeRes l m) = 0) := q5
  have hAl : (takeRes l m).length ≤ l.length + m.length := takeRes_length m l
  clear q1 q3 q4 q5
  go_enter Try.func4, Try.ntmps4
  go_wp2_with fail
  refine (add_any a c l a2 c2 m w h (by omega) h2 (by omega)).mono ?_
  rintro e w1 ⟨hb1, ⟨hno, _⟩ | ⟨_, a', c', rfl, hA1, _⟩⟩
  case inl => exact absurd HE.out hno
  go_wp2_with fail
  refine (storeBegun_any w1).mono ?_
  rintro e w2 ⟨rfl, hb2⟩
  have hB2 := hb1.trans (hb2.mono hb1.size)
  have hA2 := hA1.below hb2
  clear hb1 hb2 hA1
  obtain ⟨v1, W1, a3, c3, W2, r1, r2, hT, hb3⟩ := both_objs w2 22 a c l (h.below hB2) hnil a2 c2 m (h2.below hB2) hnil2 (by omega) hlk
  have hA3 := hA2.below hb3
  have hB3 := hB2.trans (hb3.mono hB2.size)
  obtain ⟨A, hA⟩ : ∃ A, A = takeRes l m := ⟨_, rfl⟩
  obtain ⟨T, hTe⟩ : ∃ T, T = l ++ m := ⟨_, rfl⟩
  have hTl : T.length = l.length + m.length := by rw [hTe, List.length_append]
  have HT : Hid (T = l ++ m) := hTe
  have HA : Hid (A = takeRes l m) := hA
  rw [← hTe] at r2 hT
  rw [← hA] at hA3 hAl
  have hAT : A.length ≤ T.length := by omega
  have hT52 : T.length ≤ 52 := by omega
  clear hb3 hA2 hB2 hAl hTl hTe
  rw [← hA]
  clear hA
  go_wp2_with (first
    | (refine wpList_append_runs rfl (.tmp 29) (.tmp 30) rfl _ _ (by rfl) (by rfl) r1 ?_)
    | (refine wpList_append_runs rfl (.tmp 31) (.tmp 32) rfl _ _ (by rfl) (by rfl) r2 ?_))
  clear r1 r2
  go_loopw [8] (fun i wr => ∃ k : Nat, i = .int .i64 k ∧ k ≤ T.length ∧ Below W2.heap.size W2 wr) (fun i _ => T.length - (intOf i).toNat)
  case atStart => exact ⟨0, rfl, Nat.zero_le _, Below.refl _ _⟩
  case round =>
    obtain ⟨k, rfl, hk, hB⟩ := hrel
    by_cases hlt : k < T.length
    · obtain ⟨b, off, rfl, hb, hc⟩ := hT k hlt
      obtain ⟨sa, sc, y0, y1, y2, y3, y4, y5⟩ := (hc k hlt).below hB hb
      have R : C4 b (off + k * 4) T[k] sa sc wr := ⟨Nat.lt_of_lt_of_le hb hB.size, y0, y1, y2, y3, y4⟩
      obtain ⟨i, hi, ei, hp⟩ : ∃ i, ∃ hi : i < A.length, A[i] = T[k] ∧ placeI A T[k].id = i := by
        obtain ⟨i, hi, e1, e2⟩ := add_keeps HE.out (x := T[k]) (by rw [← HT.out]; exact List.getElem_mem hlt)
        have HAo := HA.out
        subst HAo
        exact ⟨i, hi, e1, e2⟩
      have hck : checkS A = 0 := by rw [HA.out]; exact HC.out
      have HCK : Hid (checkS A = 0) := hck
      have hki : (k : Int) < (T.length : Int) := by omega
      have HIN : Hid (T[k] ∈ A) := by unfold Hid; rw [← ei]; exact List.getElem_mem hi
      have HF := find_ok a' c' A T[k].id i wr (hA3.below hB) hck hp hi
      rw [ei] at HF
      clear hc hp ei hi hck
      go_wp2_with fail
      clear y0 y1 y2 y3 y4
      refine HF.mono ?_
      clear HF
      rintro e w5 ⟨ua, uc, rfl, hua, hb5⟩
      have CY := C4.new w5 T[k] ua uc hua
      have hb6 := hb5.trans ((below_alloc w5 (.cells #[.int .i64 T[k].id, .int .i64 T[k].kind, .slice ua T[k].links.length uc, .string T[k].text] 28)).mono hb5.size)
      have R6 := R.below hb6
      have HB6 := hB.trans (hb6.mono hB.size)
      clear hb6 hb5 R hB hua
      go_wp2_with fail
      generalize w5.alloc (.cells #[.int .i64 T[k].id, .int .i64 T[k].kind, .slice ua T[k].links.length uc, .string T[k].text] 28) = W4 at *
      generalize w5.heap.size = B9 at *
      have SD := (Below.refl W4.heap.size W4).drew
      have CYD := CY.below SD
      have RD := R6.below SD
      have HBD := HB6.trans (SD.mono HB6.size)
      clear CY R6 HB6 SD
      refine wp_region_E (fun W => C4 B9 0 T[k] ua uc W ∧ C4 b (off + k * 4) T[k] sa sc W) (fun _ => false) (by kernel_rfl) ⟨CYD, RD⟩ (fun hS => ?_)
      refine wpAnyE.take (i := 0) (v := ?_) rfl (by kernel_rfl) (by kernel_rfl) (by kernel_rfl) (by kernel_rfl) (fun _ _ _ h => h) (Or.inl ⟨by rfl, ?_⟩) (by assumption) ?_
      rotate_left
      · intro w hSw; go_simp; with_reducible rfl
      try simp only [Act.put, List.getElem_toArray, List.getElem_cons_zero, List.setIfInBounds_toArray, List.set_cons_zero, List.set_cons_succ]
      refine wpAnyE.take (i := 1) (v := ?_) rfl (by kernel_rfl) (by kernel_rfl) (by kernel_rfl) (by kernel_rfl) (fun _ _ _ h => h) (Or.inl ⟨by rfl, ?_⟩) (by assumption) ?_
      rotate_left
      · intro w hSw; go_simp; with_reducible rfl
      try simp only [Act.put, List.getElem_toArray, List.getElem_cons_succ, List.getElem_cons_zero, List.setIfInBounds_toArray, List.set_cons_zero, List.set_cons_succ]
      refine wpAnyE.take (i := 2) (v := ?_) rfl (by kernel_rfl) (by kernel_rfl) (by kernel_rfl) (by kernel_rfl) (fun _ _ _ h => h) (Or.inl ⟨by rfl, ?_⟩) (by assumption) ?_
      rotate_left
      · intro w hSw; go_simp; with_reducible rfl
      try simp only [Act.put, List.getElem_toArray, List.getElem_cons_succ, List.getElem_cons_zero, List.setIfInBounds_toArray, List.set_cons_zero, List.set_cons_succ]
      refine wpAnyE.take (i := 3) (v := ?_) rfl (by kernel_rfl) (by kernel_rfl) (by kernel_rfl) (by kernel_rfl) (fun _ _ _ h => h) (Or.inl ⟨by rfl, ?_⟩) (by assumption) ?_
      rotate_left
      · intro w hSw; have q := hSw.1; have z0 := q.c0; have z1 := q.c1; have z2 := q.c2; have z3 := q.c3; clear q hSw; go_simp; with_reducible rfl
      try simp only [Act.put, List.getElem_toArray, List.getElem_cons_succ, List.getElem_cons_zero, List.setIfInBounds_toArray, List.set_cons_zero, List.set_cons_succ]
      refine wpAnyE.take (i := 4) (v := ?_) rfl (by kernel_rfl) (by kernel_rfl) (by kernel_rfl) (by kernel_rfl) (fun _ _ _ h => h) (Or.inl ⟨by rfl, ?_⟩) (by assumption) ?_
      rotate_left
      · intro w hSw; go_simp; with_reducible rfl
      try simp only [Act.put, List.getElem_toArray, List.getElem_cons_succ, List.getElem_cons_zero, List.setIfInBounds_toArray, List.set_cons_zero, List.set_cons_succ]
      refine wpAnyE.take (i := 5) (v := ?_) rfl (by kernel_rfl) (by kernel_rfl) (by kernel_rfl) (by kernel_rfl) (fun _ _ _ h => h) (Or.inl ⟨by rfl, ?_⟩) (by assumption) ?_
      rotate_left
      · intro w hSw; go_simp; with_reducible rfl
      try simp only [Act.put, List.getElem_toArray, List.getElem_cons_succ, List.getElem_cons_zero, List.setIfInBounds_toArray, List.set_cons_zero, List.set_cons_succ]
      refine wpAnyE.take (i := 6) (v := ?_) rfl (by kernel_rfl) (by kernel_rfl) (by kernel_rfl) (by kernel_rfl) (fun _ _ _ h => h) (Or.inl ⟨by rfl, ?_⟩) (by assumption) ?_
      rotate_left
      · intro w hSw; go_simp; with_reducible rfl
      try simp only [Act.put, List.getElem_toArray, List.getElem_cons_succ, List.getElem_cons_zero, List.setIfInBounds_toArray, List.set_cons_zero, List.set_cons_succ]
      refine wpAnyE.take (i := 7) (v := ?_) rfl (by kernel_rfl) (by kernel_rfl) (by kernel_rfl) (by kernel_rfl) (fun _ _ _ h => h) (Or.inl ⟨by rfl, ?_⟩) (by assumption) ?_
      rotate_left
      · intro w hSw; have q := hSw.2; have z0 := q.c0; have z1 := q.c1; have z2 := q.c2; have z3 := q.c3; clear q hSw; go_simp; with_reducible rfl
      try simp only [Act.put, List.getElem_toArray, List.getElem_cons_succ, List.getElem_cons_zero, List.setIfInBounds_toArray, List.set_cons_zero, List.set_cons_succ]
      generalize W4.drew = W5 at *
      refine wpAnyE.one (i := 8) (by kernel_rfl) rfl (fun K hK => ?_)
      go_simp
      refine (sameObject_any T[k].id T[k].kind ua uc T[k].links T[k].text T[k].id T[k].kind sa sc T[k].links T[k].text W5 CYD.holds RD.holds y5).mono ?_
      rintro e W6 ⟨rfl, hb6⟩
      rw [sameO_refl]
      have hS6 : C4 B9 0 T[k] ua uc W6 ∧ C4 b (off + k * 4) T[k] sa sc W6 := ⟨CYD.below hb6, RD.below hb6⟩
      have HB6 := HBD.trans (hb6.mono HBD.size)
      clear hb6 CYD RD HBD hS
      refine hK _ _ (fun _ => hS6) ?_
      clear hK K
      try simp only [Act.put, List.getElem_toArray, List.getElem_cons_succ, List.getElem_cons_zero, List.setIfInBounds_toArray, List.set_cons_zero, List.set_cons_succ]
      refine wpAnyE.take (i := 9) (v := ?_) rfl (by kernel_rfl) (by kernel_rfl) (by kernel_rfl) (by kernel_rfl) (fun _ _ _ h => h) (Or.inl ⟨by rfl, ?_⟩) (by assumption) ?_
      rotate_left
      · intro w hSw; go_simp; with_reducible rfl
      try simp only [Act.put, List.getElem_toArray, List.getElem_cons_succ, List.getElem_cons_zero, List.setIfInBounds_toArray, List.set_cons_zero, List.set_cons_succ]
      refine wpAnyE.take (i := 10) (v := ?_) rfl (by kernel_rfl) (by kernel_rfl) (by kernel_rfl) (by kernel_rfl) (fun _ _ _ h => h) (Or.inl ⟨by rfl, ?_⟩) (by assumption) ?_
      rotate_left
      · intro w hSw; go_simp; with_reducible rfl
      try simp only [Act.put, List.getElem_toArray, List.getElem_cons_succ, List.getElem_cons_zero, List.setIfInBounds_toArray, List.set_cons_zero, List.set_cons_succ]
      refine wpAnyE.done (by kernel_rfl) ?_
      have CY6 := hS6.1
      clear hS6
      go_wp2
      go_loopw [11] (fun i wx => ∃ j : Nat, i = .int .i64 j ∧ j ≤ T[k].links.length ∧ Below W6.heap.size W6 wx) (fun i _ => T[k].links.length - (intOf i).toNat)
      case atStart => exact ⟨0, rfl, Nat.zero_le _, Below.refl _ _⟩
      case round =>
        obtain ⟨j, rfl, hj, hBj⟩ := hrel
        have CYj := CY6.below hBj
        have HBj := HB6.trans (hBj.mono HB6.size)
        have z2 := CYj.c2
        by_cases hjl : j < T[k].links.length
        · obtain ⟨bb, oo, rfl, hbb, hcc⟩ := CYj.holds j hjl
          have zj := hcc j hjl
          rw [List.getD_eq_getElem?_getD, List.getElem?_eq_getElem hjl, Option.getD_some] at zj
          obtain ⟨i2, hi2, hp2⟩ := store_links HCK.out HIN.out hjl
          have HF2 := find_ok a' c' A T[k].links[j] i2 _ (hA3.below HBj) HCK.out hp2 hi2
          have hji : (j : Int) < (T[k].links.length : Int) := by omega
          clear hcc hp2 CYj
          go_wp2_with fail
          refine HF2.mono ?_
          clear HF2
          rintro e w7 ⟨va, vc, rfl, _, hb7⟩
          have hb8 := hb7.trans ((below_alloc w7 (.cells #[.int .i64 A[i2].id, .int .i64 A[i2].kind, .slice va A[i2].links.length vc, .string A[i2].text] 28)).mono hb7.size)
          have hB8 := hBj.trans (hb8.mono hBj.size)
          clear hb7 hb8 hBj HBj zj z2
          go_wp2
          go_roundw
          case rel => exact ⟨j + 1, by go_num, by omega, hB8⟩
          case measure => simp [intOf]; omega
        · go_wp2
          go_roundw
          case rel => exact ⟨k + 1, by go_num, by omega, HBj⟩
          case measure => simp [intOf]; omega
    · obtain ⟨g1, g2⟩ := add_again HE.out
      rw [← HA.out] at g1 g2
      have HCK : Hid (checkS A = 0) := by unfold Hid; rw [HA.out]; exact HC.out
      have HG : Hid (takeRes A m = A) := g2
      have HG1 : Hid (addE A m = 0) := g1
      clear g1 g2
      have hBw := hB3.trans (hB.mono hB3.size)
      go_wp2_with fail
      refine (add_any a' c' A a2 c2 m _ (hA3.below hB) (by omega) (h2.below hBw) (by omega)).mono ?_
      rintro e w8 ⟨hb8, ⟨hno, _⟩ | ⟨_, a4, c4, rfl, hA4, _⟩⟩
      case inl => exact absurd HG1.out hno
      rw [HG.out] at hA4 ⊢
      have hA8 := (hA3.below hB).below hb8
      have hB8 := hBw.trans (hb8.mono hBw.size)
      clear hb8 hBw hB hA3
      go_wp2_with fail
      refine (checkS_any a' c' A w8 hA8 (by omega)).mono ?_
      rintro e w9 ⟨rfl, hb9⟩
      rw [HCK.out]
      have hA9 := hA8.below hb9
      have hA49 := hA4.below hb9
      have hB9 := hB8.trans (hb9.mono hB8.size)
      clear hb9 hA8 hA4 hB8
      go_wp2_with fail
      refine (sameStore_refl a' c' a4 c4 A w9 hA9 hA49 (by omega)).mono ?_
      rintro e w10 ⟨rfl, hb10⟩
      have hB10 := hB9.trans (hb10.mono hB9.size)
      have hAT' : (A.length : Int) ≤ (T.length : Int) := by omega
      clear hb10 hA9 hA49 hB9
      go_wp2
      go_ret
      exact ⟨rfl, hB10⟩
end Go.Proofs.Ytehmlpkapjdhkaa
