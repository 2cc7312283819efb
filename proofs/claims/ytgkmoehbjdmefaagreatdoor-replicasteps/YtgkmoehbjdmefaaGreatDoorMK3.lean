import Derived.Test.YtgkmoehbjdmefaaGreatDoorMK2
namespace Go.Proofs.YtgkmoehbjdmefaaGreatDoor
open Go.RowKit
set_option maxRecDepth 100000

theorem beg_p : prepE shelfL namesL 7 0 [] [] false comeL comeU = 0 := by decide +kernel
theorem beg_d : duE shelfL namesL 7 1 comeL comeU false 1 = 0 := by decide +kernel
theorem beg_f : finE shelfL namesL 7 2 comeL comeU false true = 0 := by decide +kernel
theorem beg_c : repE shelfL namesL 7 2 comeL comeU false = 0 := by decide +kernel
theorem beg_g : finE shelfL namesL 7 1 comeL comeU false true = 4 := by decide +kernel
theorem beg_r : repE (takeRes shelfL comeL) (runL namesL comeU) 8 0 [] [] false = 0 := by decide +kernel

set_option maxHeartbeats 16000000 in
theorem replicaBegun_any (w : World) (hg : Glob w) (ht : Tab w) : Calls Tryz.prog 21 #[] w fun e w' => e = .returned (.bool true) ∧ Below w.heap.size w w' := by
  go_enter Tryz.func21, Tryz.ntmps21
  go_wp2_with fail
  refine (host_any w).mono ?_
  rintro e w1 ⟨g1, g2, rfl, hS1, hR1, hb1⟩
  go_wp2_with fail
  refine (come_any w1).mono ?_
  rintro e w2 ⟨g3, g4, rfl, hM2, hU2, hb2⟩
  have hB2 := hb1.trans (hb2.mono hb1.size)
  have R2 : RepH w2 (some ⟨g1, 0, none⟩) shelfL (some ⟨g2, 0, none⟩) namesL none [] none [] := ⟨hS1.below hb2, hR1.below hb2, fun i hi => by simp at hi, fun i hi => by simp at hi, by decide, by decide, by simp, by simp⟩
  have hpr := prepare_any (some ⟨g1, 0, none⟩) 5 shelfL (some ⟨g2, 0, none⟩) 2 namesL 7 0 none 0 [] none 0 [] false (some ⟨g3, 0, none⟩) 1 comeL (some ⟨g4, 0, none⟩) 1 comeU false w2 (hg.below hB2) R2 hM2 (by decide) hU2 (by decide)
  clear hS1 hR1 hM2 hU2 hb1 hb2 R2
  go_wp2_with fail
  refine hpr.mono ?_
  clear hpr
  rintro e w3 ⟨hb3, ⟨hno, -⟩ | ⟨-, b0, d0, b1, d1, b2, d2, b3, d3, rfl, R3⟩⟩
  case inl => exact absurd beg_p hno
  have hB3 := hB2.trans (hb3.mono hB2.size)
  clear hb3 hB2
  have hA3 := below_alloc w3 (.cells #[.slice b0 shelfL.length d0, .slice b1 namesL.length d1, .int .i64 7, .int .i64 1, .slice b2 comeL.length d2, .slice b3 comeU.length d3, .bool false] 28)
  have ka3 := heap_alloc_new w3 (.cells #[.slice b0 shelfL.length d0, .slice b1 namesL.length d1, .int .i64 7, .int .i64 1, .slice b2 comeL.length d2, .slice b3 comeU.length d3, .bool false] 28)
  obtain ⟨A, hAe⟩ : ∃ A, A = w3.heap.size := ⟨_, rfl⟩
  rw [← hAe] at ka3
  obtain ⟨y0, y1, y2, y3, y4, y5, y6⟩ := c7_of ka3
  have R4 := R3.below hA3
  have hB4 := hB3.trans (hA3.mono hB3.size)
  have hvo := vote_any b0 d0 shelfL b1 d1 namesL 7 1 b2 d2 comeL b3 d3 comeU false _ (hg.below hB4) (ht.below hB4) R4
  rw [beg_d, beg_v2] at hvo
  clear hA3 hB3 R3
  go_wp2_with fail
  rw [← hAe]
  clear hAe
  generalize w3.alloc (.cells #[.slice b0 shelfL.length d0, .slice b1 namesL.length d1, .int .i64 7, .int .i64 1, .slice b2 comeL.length d2, .slice b3 comeU.length d3, .bool false] 28) = w4 at *
  refine hvo.mono ?_
  clear hvo
  rintro e w5 ⟨hb5, ⟨hno, -⟩ | ⟨-, e0, k0, e1, k1, e2, k2, e3, k3, rfl, R5⟩⟩
  case inl => exact absurd rfl hno
  have hB5 := hB4.trans (hb5.mono hB4.size)
  have ka5 := (hb5.block _ (heap_lt ka3)).trans ka3
  have R45 := R4.below hb5
  clear hb5 hB4 ka3 y0 y1 y2 y3 y4 y5 y6 R4
  have hA5 := below_alloc w5 (.cells #[.slice e0 shelfL.length k0, .slice e1 namesL.length k1, .int .i64 7, .int .i64 2, .slice e2 comeL.length k2, .slice e3 comeU.length k3, .bool false] 28)
  have kb5 := heap_alloc_new w5 (.cells #[.slice e0 shelfL.length k0, .slice e1 namesL.length k1, .int .i64 7, .int .i64 2, .slice e2 comeL.length k2, .slice e3 comeU.length k3, .bool false] 28)
  obtain ⟨B, hBe⟩ : ∃ B, B = w5.heap.size := ⟨_, rfl⟩
  rw [← hBe] at kb5
  obtain ⟨y0, y1, y2, y3, y4, y5, y6⟩ := c7_of kb5
  have ka6 := (hA5.block _ (heap_lt ka5)).trans ka5
  have R6 := R5.below hA5
  have R46 := R45.below hA5
  have hB6 := hB5.trans (hA5.mono hB5.size)
  have hfi := finish_any e0 k0 shelfL e1 k1 namesL 7 2 e2 k2 comeL e3 k3 comeU false true _ (hg.below hB6) R6
  rw [beg_f] at hfi
  clear hA5 hB5 R5 R45 ka5
  go_wp2_with fail
  rw [← hBe]
  clear hBe
  generalize w5.alloc (.cells #[.slice e0 shelfL.length k0, .slice e1 namesL.length k1, .int .i64 7, .int .i64 2, .slice e2 comeL.length k2, .slice e3 comeU.length k3, .bool false] 28) = w6 at *
  refine hfi.mono ?_
  clear hfi
  obtain ⟨CS, hCS⟩ : ∃ CS, CS = finS shelfL comeL true := ⟨_, rfl⟩
  obtain ⟨CL, hCL⟩ : ∃ CL, CL = finL namesL comeU true := ⟨_, rfl⟩
  rw [← hCS, ← hCL, show finG 7 true = 8 from rfl]
  have HCS : Hid (CS.length = 6) := by unfold Hid; rw [hCS]; exact beg_res
  have HCR : Hid (repE CS CL 8 0 [] [] false = 0) := by unfold Hid; rw [hCS, hCL]; exact beg_r
  clear hCS hCL
  rintro e w7 ⟨hb7, ⟨hno, -⟩ | ⟨-, h0, n0, h1, n1, h2, n2, h3, n3, rfl, R7⟩⟩
  case inl => exact absurd rfl hno
  have hB7 := hB6.trans (hb7.mono hB6.size)
  have ka7 := (hb7.block _ (heap_lt ka6)).trans ka6
  have kb7 := (hb7.block _ (heap_lt kb5)).trans kb5
  have R67 := R6.below hb7
  have R47 := R46.below hb7
  clear hb7 hB6 ka6 kb5 R6 R46 y0 y1 y2 y3 y4 y5 y6
  have hA7 := below_alloc w7 (.cells #[.slice h0 CS.length n0, .slice h1 CL.length n1, .int .i64 8, .int .i64 0, .slice h2 0 n2, .slice h3 0 n3, .bool false] 28)
  have kc7 := heap_alloc_new w7 (.cells #[.slice h0 CS.length n0, .slice h1 CL.length n1, .int .i64 8, .int .i64 0, .slice h2 0 n2, .slice h3 0 n3, .bool false] 28)
  obtain ⟨C, hCe⟩ : ∃ C, C = w7.heap.size := ⟨_, rfl⟩
  rw [← hCe] at kc7
  have ka8 := (hA7.block _ (heap_lt ka7)).trans ka7
  have kb8 := (hA7.block _ (heap_lt kb7)).trans kb7
  have R8 := R7.below hA7
  have R68 := R67.below hA7
  have R48 := R47.below hA7
  have hB8 := hB7.trans (hA7.mono hB7.size)
  obtain ⟨y0, y1, y2, y3, y4, y5, y6⟩ := c7_of kb8
  have hcr := crash_any e0 k0 shelfL e1 k1 namesL 7 2 e2 k2 comeL e3 k3 comeU false _ (hg.below hB8) R68
  rw [beg_c] at hcr
  clear hA7 hB7 R7 R67 R47 ka7 kb7 R68
  go_wp2_with fail
  rw [← hCe]
  clear hCe
  generalize w7.alloc (.cells #[.slice h0 CS.length n0, .slice h1 CL.length n1, .int .i64 8, .int .i64 0, .slice h2 0 n2, .slice h3 0 n3, .bool false] 28) = w8 at *
  refine hcr.mono ?_
  clear hcr
  rintro e w9 ⟨hb9, ⟨hno, -⟩ | ⟨-, p0, q0, p1, q1, p2, q2, p3, q3, rfl, R9⟩⟩
  case inl => exact absurd rfl hno
  have hB9 := hB8.trans (hb9.mono hB8.size)
  have ka9 := (hb9.block _ (heap_lt ka8)).trans ka8
  have kb9 := (hb9.block _ (heap_lt kb8)).trans kb8
  have kc9 := (hb9.block _ (heap_lt kc7)).trans kc7
  have R89 := R8.below hb9
  have R49 := R48.below hb9
  clear hb9 hB8 ka8 kb8 kc7 R8 R48 y0 y1 y2 y3 y4 y5 y6
  have hA9 := below_alloc w9 (.cells #[.slice p0 shelfL.length q0, .slice p1 namesL.length q1, .int .i64 7, .int .i64 0, .slice p2 0 q2, .slice p3 0 q3, .bool false] 28)
  have kd9 := heap_alloc_new w9 (.cells #[.slice p0 shelfL.length q0, .slice p1 namesL.length q1, .int .i64 7, .int .i64 0, .slice p2 0 q2, .slice p3 0 q3, .bool false] 28)
  obtain ⟨D, hDe⟩ : ∃ D, D = w9.heap.size := ⟨_, rfl⟩
  rw [← hDe] at kd9
  have ka10 := (hA9.block _ (heap_lt ka9)).trans ka9
  have kb10 := (hA9.block _ (heap_lt kb9)).trans kb9
  have kc10 := (hA9.block _ (heap_lt kc9)).trans kc9
  have R10 := R9.below hA9
  have R810 := R89.below hA9
  have R410 := R49.below hA9
  have hB10 := hB9.trans (hA9.mono hB9.size)
  obtain ⟨y0, y1, y2, y3, y4, y5, y6⟩ := c7_of ka10
  have hfi := finish_any b0 d0 shelfL b1 d1 namesL 7 1 b2 d2 comeL b3 d3 comeU false true _ (hg.below hB10) R410
  rw [beg_g] at hfi
  clear hA9 hB9 R9 R89 R49 ka9 kb9 kc9 R410
  go_wp2_with fail
  rw [← hDe]
  clear hDe
  generalize w9.alloc (.cells #[.slice p0 shelfL.length q0, .slice p1 namesL.length q1, .int .i64 7, .int .i64 0, .slice p2 0 q2, .slice p3 0 q3, .bool false] 28) = w10 at *
  refine hfi.mono ?_
  clear hfi
  rintro e w11 ⟨hb11, ⟨-, rfl⟩ | ⟨hno, -⟩⟩
  case inr => exact absurd hno (by decide)
  have hA11 := below_alloc w11 zero28
  have hB12 := (hB10.trans (hb11.mono hB10.size)).trans (hA11.mono (hB10.trans (hb11.mono hB10.size)).size)
  have hbb := hb11.trans (hA11.mono hb11.size)
  have ka12 := (hbb.block _ (heap_lt ka10)).trans ka10
  have kb12 := (hbb.block _ (heap_lt kb10)).trans kb10
  have kc12 := (hbb.block _ (heap_lt kc10)).trans kc10
  have kd12 := (hbb.block _ (heap_lt kd9)).trans kd9
  have R12 := R10.below hbb
  have R812 := R810.below hbb
  clear hbb hA11 hb11 hB10 ka10 kb10 kc10 kd9 R10 R810 y0 y1 y2 y3 y4 y5 y6
  go_wp2_with fail
  generalize w11.alloc zero28 = w12 at *
  have hdr := (Below.refl w12.heap.size w12).drew
  have kaD := (hdr.block _ (heap_lt ka12)).trans ka12
  have kbD := (hdr.block _ (heap_lt kb12)).trans kb12
  have kcD := (hdr.block _ (heap_lt kc12)).trans kc12
  have kdD := (hdr.block _ (heap_lt kd12)).trans kd12
  have RD := R12.below hdr
  have R8D := R812.below hdr
  have hBD := hB12.trans (hdr.mono hB12.size)
  have hS0 : (w12.drew.cell? ⟨A, 0, none⟩ = some (.slice b0 shelfL.length d0) ∧ w12.drew.cell? ⟨A, 1, none⟩ = some (.slice b1 namesL.length d1) ∧ w12.drew.cell? ⟨A, 2, none⟩ = some (.int .i64 7) ∧ w12.drew.cell? ⟨A, 3, none⟩ = some (.int .i64 1) ∧ w12.drew.cell? ⟨A, 4, none⟩ = some (.slice b2 comeL.length d2) ∧ w12.drew.cell? ⟨A, 5, none⟩ = some (.slice b3 comeU.length d3) ∧ w12.drew.cell? ⟨A, 6, none⟩ = some (.bool false)) ∧ (w12.drew.cell? ⟨B, 0, none⟩ = some (.slice e0 shelfL.length k0) ∧ w12.drew.cell? ⟨B, 1, none⟩ = some (.slice e1 namesL.length k1) ∧ w12.drew.cell? ⟨B, 2, none⟩ = some (.int .i64 7) ∧ w12.drew.cell? ⟨B, 3, none⟩ = some (.int .i64 2) ∧ w12.drew.cell? ⟨B, 4, none⟩ = some (.slice e2 comeL.length k2) ∧ w12.drew.cell? ⟨B, 5, none⟩ = some (.slice e3 comeU.length k3) ∧ w12.drew.cell? ⟨B, 6, none⟩ = some (.bool false)) ∧ (w12.drew.cell? ⟨C, 0, none⟩ = some (.slice h0 CS.length n0) ∧ w12.drew.cell? ⟨C, 1, none⟩ = some (.slice h1 CL.length n1) ∧ w12.drew.cell? ⟨C, 2, none⟩ = some (.int .i64 8) ∧ w12.drew.cell? ⟨C, 3, none⟩ = some (.int .i64 0) ∧ w12.drew.cell? ⟨C, 4, none⟩ = some (.slice h2 0 n2) ∧ w12.drew.cell? ⟨C, 5, none⟩ = some (.slice h3 0 n3) ∧ w12.drew.cell? ⟨C, 6, none⟩ = some (.bool false)) ∧ (w12.drew.cell? ⟨D, 0, none⟩ = some (.slice p0 shelfL.length q0) ∧ w12.drew.cell? ⟨D, 1, none⟩ = some (.slice p1 namesL.length q1) ∧ w12.drew.cell? ⟨D, 2, none⟩ = some (.int .i64 7) ∧ w12.drew.cell? ⟨D, 3, none⟩ = some (.int .i64 0) ∧ w12.drew.cell? ⟨D, 4, none⟩ = some (.slice p2 0 q2) ∧ w12.drew.cell? ⟨D, 5, none⟩ = some (.slice p3 0 q3) ∧ w12.drew.cell? ⟨D, 6, none⟩ = some (.bool false)) := ⟨c7_of kaD, c7_of kbD, c7_of kcD, c7_of kdD⟩
  clear hdr ka12 kb12 kc12 kd12 R12 R812 hB12
  refine wp_region_E (fun W => (W.cell? ⟨A, 0, none⟩ = some (.slice b0 shelfL.length d0) ∧ W.cell? ⟨A, 1, none⟩ = some (.slice b1 namesL.length d1) ∧ W.cell? ⟨A, 2, none⟩ = some (.int .i64 7) ∧ W.cell? ⟨A, 3, none⟩ = some (.int .i64 1) ∧ W.cell? ⟨A, 4, none⟩ = some (.slice b2 comeL.length d2) ∧ W.cell? ⟨A, 5, none⟩ = some (.slice b3 comeU.length d3) ∧ W.cell? ⟨A, 6, none⟩ = some (.bool false)) ∧ (W.cell? ⟨B, 0, none⟩ = some (.slice e0 shelfL.length k0) ∧ W.cell? ⟨B, 1, none⟩ = some (.slice e1 namesL.length k1) ∧ W.cell? ⟨B, 2, none⟩ = some (.int .i64 7) ∧ W.cell? ⟨B, 3, none⟩ = some (.int .i64 2) ∧ W.cell? ⟨B, 4, none⟩ = some (.slice e2 comeL.length k2) ∧ W.cell? ⟨B, 5, none⟩ = some (.slice e3 comeU.length k3) ∧ W.cell? ⟨B, 6, none⟩ = some (.bool false)) ∧ (W.cell? ⟨C, 0, none⟩ = some (.slice h0 CS.length n0) ∧ W.cell? ⟨C, 1, none⟩ = some (.slice h1 CL.length n1) ∧ W.cell? ⟨C, 2, none⟩ = some (.int .i64 8) ∧ W.cell? ⟨C, 3, none⟩ = some (.int .i64 0) ∧ W.cell? ⟨C, 4, none⟩ = some (.slice h2 0 n2) ∧ W.cell? ⟨C, 5, none⟩ = some (.slice h3 0 n3) ∧ W.cell? ⟨C, 6, none⟩ = some (.bool false)) ∧ (W.cell? ⟨D, 0, none⟩ = some (.slice p0 shelfL.length q0) ∧ W.cell? ⟨D, 1, none⟩ = some (.slice p1 namesL.length q1) ∧ W.cell? ⟨D, 2, none⟩ = some (.int .i64 7) ∧ W.cell? ⟨D, 3, none⟩ = some (.int .i64 0) ∧ W.cell? ⟨D, 4, none⟩ = some (.slice p2 0 q2) ∧ W.cell? ⟨D, 5, none⟩ = some (.slice p3 0 q3) ∧ W.cell? ⟨D, 6, none⟩ = some (.bool false))) (fun _ => false) (by kernel_rfl) hS0 (fun hS => ?_)
  have hck := repCheck_any h0 n0 CS h1 n1 CL 8 0 h2 n2 [] h3 n3 [] false w12.drew (hg.below hBD) R8D
  rw [HCR.out] at hck
  generalize w12.drew = W0 at *
  refine wpAnyE.take (i := 0) (v := ?_) rfl (by kernel_rfl) (by kernel_rfl) (by kernel_rfl) (by kernel_rfl) (fun _ _ _ h => h) (Or.inl ⟨by rfl, ?_⟩) (by assumption) ?_
  rotate_left
  · intro w hSw; obtain ⟨⟨aa0, aa1, aa2, aa3, aa4, aa5, aa6⟩, ⟨bb0, bb1, bb2, bb3, bb4, bb5, bb6⟩, ⟨cc0, cc1, cc2, cc3, cc4, cc5, cc6⟩, ⟨dd0, dd1, dd2, dd3, dd4, dd5, dd6⟩⟩ := hSw; go_simp; with_reducible rfl
  try simp only [Act.put, List.getElem_toArray, List.getElem_cons_zero, List.setIfInBounds_toArray, List.set_cons_zero, List.set_cons_succ]
  refine wpAnyE.one (i := 1) (by kernel_rfl) rfl (fun K hK => ?_)
  go_simp
  refine hck.mono ?_
  clear hck
  rintro e W1 ⟨rfl, hb1⟩
  have ka1 := (hb1.block _ (heap_lt kaD)).trans kaD
  have kb1 := (hb1.block _ (heap_lt kbD)).trans kbD
  have kc1 := (hb1.block _ (heap_lt kcD)).trans kcD
  have kd1 := (hb1.block _ (heap_lt kdD)).trans kdD
  have R1 := RD.below hb1
  have hB1 := hBD.trans (hb1.mono hBD.size)
  have hS1 : (W1.cell? ⟨A, 0, none⟩ = some (.slice b0 shelfL.length d0) ∧ W1.cell? ⟨A, 1, none⟩ = some (.slice b1 namesL.length d1) ∧ W1.cell? ⟨A, 2, none⟩ = some (.int .i64 7) ∧ W1.cell? ⟨A, 3, none⟩ = some (.int .i64 1) ∧ W1.cell? ⟨A, 4, none⟩ = some (.slice b2 comeL.length d2) ∧ W1.cell? ⟨A, 5, none⟩ = some (.slice b3 comeU.length d3) ∧ W1.cell? ⟨A, 6, none⟩ = some (.bool false)) ∧ (W1.cell? ⟨B, 0, none⟩ = some (.slice e0 shelfL.length k0) ∧ W1.cell? ⟨B, 1, none⟩ = some (.slice e1 namesL.length k1) ∧ W1.cell? ⟨B, 2, none⟩ = some (.int .i64 7) ∧ W1.cell? ⟨B, 3, none⟩ = some (.int .i64 2) ∧ W1.cell? ⟨B, 4, none⟩ = some (.slice e2 comeL.length k2) ∧ W1.cell? ⟨B, 5, none⟩ = some (.slice e3 comeU.length k3) ∧ W1.cell? ⟨B, 6, none⟩ = some (.bool false)) ∧ (W1.cell? ⟨C, 0, none⟩ = some (.slice h0 CS.length n0) ∧ W1.cell? ⟨C, 1, none⟩ = some (.slice h1 CL.length n1) ∧ W1.cell? ⟨C, 2, none⟩ = some (.int .i64 8) ∧ W1.cell? ⟨C, 3, none⟩ = some (.int .i64 0) ∧ W1.cell? ⟨C, 4, none⟩ = some (.slice h2 0 n2) ∧ W1.cell? ⟨C, 5, none⟩ = some (.slice h3 0 n3) ∧ W1.cell? ⟨C, 6, none⟩ = some (.bool false)) ∧ (W1.cell? ⟨D, 0, none⟩ = some (.slice p0 shelfL.length q0) ∧ W1.cell? ⟨D, 1, none⟩ = some (.slice p1 namesL.length q1) ∧ W1.cell? ⟨D, 2, none⟩ = some (.int .i64 7) ∧ W1.cell? ⟨D, 3, none⟩ = some (.int .i64 0) ∧ W1.cell? ⟨D, 4, none⟩ = some (.slice p2 0 q2) ∧ W1.cell? ⟨D, 5, none⟩ = some (.slice p3 0 q3) ∧ W1.cell? ⟨D, 6, none⟩ = some (.bool false)) := ⟨c7_of ka1, c7_of kb1, c7_of kc1, c7_of kd1⟩
  clear hS hS0 hb1 kaD kbD kcD kdD RD R8D hBD
  refine hK _ _ (fun _ => hS1) ?_
  clear hK K
  have hc6 : ((CS.length : Int) == 6) = true := by rw [HCS.out]; rfl
  have qA : (sA.toList == sA.toList) = true := by simp
  try simp only [Act.put, List.getElem_toArray, List.getElem_cons_succ, List.getElem_cons_zero, List.setIfInBounds_toArray, List.set_cons_zero, List.set_cons_succ]
  refine wpAnyE.take (i := 2) (v := ?_) rfl (by kernel_rfl) (by kernel_rfl) (by kernel_rfl) (by kernel_rfl) (fun _ _ _ h => h) (Or.inl ⟨by rfl, ?_⟩) (by assumption) ?_
  rotate_left
  · intro w hSw; obtain ⟨⟨aa0, aa1, aa2, aa3, aa4, aa5, aa6⟩, ⟨bb0, bb1, bb2, bb3, bb4, bb5, bb6⟩, ⟨cc0, cc1, cc2, cc3, cc4, cc5, cc6⟩, ⟨dd0, dd1, dd2, dd3, dd4, dd5, dd6⟩⟩ := hSw; go_simp; with_reducible rfl
  try simp only [Act.put, List.getElem_toArray, List.getElem_cons_succ, List.getElem_cons_zero, List.setIfInBounds_toArray, List.set_cons_zero, List.set_cons_succ]
  refine wpAnyE.take (i := 3) (v := ?_) rfl (by kernel_rfl) (by kernel_rfl) (by kernel_rfl) (by kernel_rfl) (fun _ _ _ h => h) (Or.inl ⟨by rfl, ?_⟩) (by assumption) ?_
  rotate_left
  · intro w hSw; obtain ⟨⟨aa0, aa1, aa2, aa3, aa4, aa5, aa6⟩, ⟨bb0, bb1, bb2, bb3, bb4, bb5, bb6⟩, ⟨cc0, cc1, cc2, cc3, cc4, cc5, cc6⟩, ⟨dd0, dd1, dd2, dd3, dd4, dd5, dd6⟩⟩ := hSw; go_simp; with_reducible rfl
  try simp only [Act.put, List.getElem_toArray, List.getElem_cons_succ, List.getElem_cons_zero, List.setIfInBounds_toArray, List.set_cons_zero, List.set_cons_succ]
  refine wpAnyE.take (i := 4) (v := ?_) rfl (by kernel_rfl) (by kernel_rfl) (by kernel_rfl) (by kernel_rfl) (fun _ _ _ h => h) (Or.inl ⟨by rfl, ?_⟩) (by assumption) ?_
  rotate_left
  · intro w hSw; obtain ⟨⟨aa0, aa1, aa2, aa3, aa4, aa5, aa6⟩, ⟨bb0, bb1, bb2, bb3, bb4, bb5, bb6⟩, ⟨cc0, cc1, cc2, cc3, cc4, cc5, cc6⟩, ⟨dd0, dd1, dd2, dd3, dd4, dd5, dd6⟩⟩ := hSw; go_simp; with_reducible rfl
  try simp only [Act.put, List.getElem_toArray, List.getElem_cons_succ, List.getElem_cons_zero, List.setIfInBounds_toArray, List.set_cons_zero, List.set_cons_succ]
  refine wpAnyE.take (i := 5) (v := ?_) rfl (by kernel_rfl) (by kernel_rfl) (by kernel_rfl) (by kernel_rfl) (fun _ _ _ h => h) (Or.inl ⟨by rfl, ?_⟩) (by assumption) ?_
  rotate_left
  · intro w hSw; obtain ⟨⟨aa0, aa1, aa2, aa3, aa4, aa5, aa6⟩, ⟨bb0, bb1, bb2, bb3, bb4, bb5, bb6⟩, ⟨cc0, cc1, cc2, cc3, cc4, cc5, cc6⟩, ⟨dd0, dd1, dd2, dd3, dd4, dd5, dd6⟩⟩ := hSw; go_simp; with_reducible rfl
  try simp only [Act.put, List.getElem_toArray, List.getElem_cons_succ, List.getElem_cons_zero, List.setIfInBounds_toArray, List.set_cons_zero, List.set_cons_succ]
  refine wpAnyE.take (i := 6) (v := ?_) rfl (by kernel_rfl) (by kernel_rfl) (by kernel_rfl) (by kernel_rfl) (fun _ _ _ h => h) (Or.inl ⟨by rfl, ?_⟩) (by assumption) ?_
  rotate_left
  · intro w hSw; obtain ⟨⟨aa0, aa1, aa2, aa3, aa4, aa5, aa6⟩, ⟨bb0, bb1, bb2, bb3, bb4, bb5, bb6⟩, ⟨cc0, cc1, cc2, cc3, cc4, cc5, cc6⟩, ⟨dd0, dd1, dd2, dd3, dd4, dd5, dd6⟩⟩ := hSw; go_simp; with_reducible rfl
  try simp only [Act.put, List.getElem_toArray, List.getElem_cons_succ, List.getElem_cons_zero, List.setIfInBounds_toArray, List.set_cons_zero, List.set_cons_succ]
  refine wpAnyE.take (i := 7) (v := ?_) rfl (by kernel_rfl) (by kernel_rfl) (by kernel_rfl) (by kernel_rfl) (fun _ _ _ h => h) (Or.inl ⟨by rfl, ?_⟩) (by assumption) ?_
  rotate_left
  · intro w hSw; obtain ⟨⟨aa0, aa1, aa2, aa3, aa4, aa5, aa6⟩, ⟨bb0, bb1, bb2, bb3, bb4, bb5, bb6⟩, ⟨cc0, cc1, cc2, cc3, cc4, cc5, cc6⟩, ⟨dd0, dd1, dd2, dd3, dd4, dd5, dd6⟩⟩ := hSw; go_simp; with_reducible rfl
  try simp only [Act.put, List.getElem_toArray, List.getElem_cons_succ, List.getElem_cons_zero, List.setIfInBounds_toArray, List.set_cons_zero, List.set_cons_succ]
  refine wpAnyE.take (i := 8) (v := ?_) rfl (by kernel_rfl) (by kernel_rfl) (by kernel_rfl) (by kernel_rfl) (fun _ _ _ h => h) (Or.inl ⟨by rfl, ?_⟩) (by assumption) ?_
  rotate_left
  · intro w hSw; obtain ⟨⟨aa0, aa1, aa2, aa3, aa4, aa5, aa6⟩, ⟨bb0, bb1, bb2, bb3, bb4, bb5, bb6⟩, ⟨cc0, cc1, cc2, cc3, cc4, cc5, cc6⟩, ⟨dd0, dd1, dd2, dd3, dd4, dd5, dd6⟩⟩ := hSw; go_simp; with_reducible rfl
  try simp only [Act.put, List.getElem_toArray, List.getElem_cons_succ, List.getElem_cons_zero, List.setIfInBounds_toArray, List.set_cons_zero, List.set_cons_succ]
  refine wpAnyE.take (i := 9) (v := ?_) rfl (by kernel_rfl) (by kernel_rfl) (by kernel_rfl) (by kernel_rfl) (fun _ _ _ h => h) (Or.inl ⟨by rfl, ?_⟩) (by assumption) ?_
  rotate_left
  · intro w hSw; obtain ⟨⟨aa0, aa1, aa2, aa3, aa4, aa5, aa6⟩, ⟨bb0, bb1, bb2, bb3, bb4, bb5, bb6⟩, ⟨cc0, cc1, cc2, cc3, cc4, cc5, cc6⟩, ⟨dd0, dd1, dd2, dd3, dd4, dd5, dd6⟩⟩ := hSw; go_simp; with_reducible rfl
  try simp only [Act.put, List.getElem_toArray, List.getElem_cons_succ, List.getElem_cons_zero, List.setIfInBounds_toArray, List.set_cons_zero, List.set_cons_succ]
  refine wpAnyE.take (i := 10) (v := ?_) rfl (by kernel_rfl) (by kernel_rfl) (by kernel_rfl) (by kernel_rfl) (fun _ _ _ h => h) (Or.inl ⟨by rfl, ?_⟩) (by assumption) ?_
  rotate_left
  · intro w hSw; obtain ⟨⟨aa0, aa1, aa2, aa3, aa4, aa5, aa6⟩, ⟨bb0, bb1, bb2, bb3, bb4, bb5, bb6⟩, ⟨cc0, cc1, cc2, cc3, cc4, cc5, cc6⟩, ⟨dd0, dd1, dd2, dd3, dd4, dd5, dd6⟩⟩ := hSw; go_simp; with_reducible rfl
  try simp only [Act.put, List.getElem_toArray, List.getElem_cons_succ, List.getElem_cons_zero, List.setIfInBounds_toArray, List.set_cons_zero, List.set_cons_succ]
  refine wpAnyE.take (i := 11) (v := ?_) rfl (by kernel_rfl) (by kernel_rfl) (by kernel_rfl) (by kernel_rfl) (fun _ _ _ h => h) (Or.inl ⟨by rfl, ?_⟩) (by assumption) ?_
  rotate_left
  · intro w hSw; obtain ⟨⟨aa0, aa1, aa2, aa3, aa4, aa5, aa6⟩, ⟨bb0, bb1, bb2, bb3, bb4, bb5, bb6⟩, ⟨cc0, cc1, cc2, cc3, cc4, cc5, cc6⟩, ⟨dd0, dd1, dd2, dd3, dd4, dd5, dd6⟩⟩ := hSw; go_simp; with_reducible rfl
  try simp only [Act.put, List.getElem_toArray, List.getElem_cons_succ, List.getElem_cons_zero, List.setIfInBounds_toArray, List.set_cons_zero, List.set_cons_succ]
  refine wpAnyE.take (i := 12) (v := ?_) rfl (by kernel_rfl) (by kernel_rfl) (by kernel_rfl) (by kernel_rfl) (fun _ _ _ h => h) (Or.inl ⟨by rfl, ?_⟩) (by assumption) ?_
  rotate_left
  · intro w hSw; obtain ⟨⟨aa0, aa1, aa2, aa3, aa4, aa5, aa6⟩, ⟨bb0, bb1, bb2, bb3, bb4, bb5, bb6⟩, ⟨cc0, cc1, cc2, cc3, cc4, cc5, cc6⟩, ⟨dd0, dd1, dd2, dd3, dd4, dd5, dd6⟩⟩ := hSw; go_simp; with_reducible rfl
  try simp only [Act.put, List.getElem_toArray, List.getElem_cons_succ, List.getElem_cons_zero, List.setIfInBounds_toArray, List.set_cons_zero, List.set_cons_succ]
  refine wpAnyE.take (i := 13) (v := ?_) rfl (by kernel_rfl) (by kernel_rfl) (by kernel_rfl) (by kernel_rfl) (fun _ _ _ h => h) (Or.inl ⟨by rfl, ?_⟩) (by assumption) ?_
  rotate_left
  · intro w hSw; obtain ⟨⟨aa0, aa1, aa2, aa3, aa4, aa5, aa6⟩, ⟨bb0, bb1, bb2, bb3, bb4, bb5, bb6⟩, ⟨cc0, cc1, cc2, cc3, cc4, cc5, cc6⟩, ⟨dd0, dd1, dd2, dd3, dd4, dd5, dd6⟩⟩ := hSw; go_simp; with_reducible rfl
  try simp only [Act.put, List.getElem_toArray, List.getElem_cons_succ, List.getElem_cons_zero, List.setIfInBounds_toArray, List.set_cons_zero, List.set_cons_succ]
  refine wpAnyE.take (i := 14) (v := ?_) rfl (by kernel_rfl) (by kernel_rfl) (by kernel_rfl) (by kernel_rfl) (fun _ _ _ h => h) (Or.inl ⟨by rfl, ?_⟩) (by assumption) ?_
  rotate_left
  · intro w hSw; obtain ⟨⟨aa0, aa1, aa2, aa3, aa4, aa5, aa6⟩, ⟨bb0, bb1, bb2, bb3, bb4, bb5, bb6⟩, ⟨cc0, cc1, cc2, cc3, cc4, cc5, cc6⟩, ⟨dd0, dd1, dd2, dd3, dd4, dd5, dd6⟩⟩ := hSw; go_simp; with_reducible rfl
  try simp only [Act.put, List.getElem_toArray, List.getElem_cons_succ, List.getElem_cons_zero, List.setIfInBounds_toArray, List.set_cons_zero, List.set_cons_succ]
  refine wpAnyE.take (i := 15) (v := ?_) rfl (by kernel_rfl) (by kernel_rfl) (by kernel_rfl) (by kernel_rfl) (fun _ _ _ h => h) (Or.inl ⟨by rfl, ?_⟩) (by assumption) ?_
  rotate_left
  · intro w hSw; obtain ⟨⟨aa0, aa1, aa2, aa3, aa4, aa5, aa6⟩, ⟨bb0, bb1, bb2, bb3, bb4, bb5, bb6⟩, ⟨cc0, cc1, cc2, cc3, cc4, cc5, cc6⟩, ⟨dd0, dd1, dd2, dd3, dd4, dd5, dd6⟩⟩ := hSw; go_simp; with_reducible rfl
  try simp only [Act.put, List.getElem_toArray, List.getElem_cons_succ, List.getElem_cons_zero, List.setIfInBounds_toArray, List.set_cons_zero, List.set_cons_succ]
  refine wpAnyE.take (i := 16) (v := ?_) rfl (by kernel_rfl) (by kernel_rfl) (by kernel_rfl) (by kernel_rfl) (fun _ _ _ h => h) (Or.inl ⟨by rfl, ?_⟩) (by assumption) ?_
  rotate_left
  · intro w hSw; obtain ⟨⟨aa0, aa1, aa2, aa3, aa4, aa5, aa6⟩, ⟨bb0, bb1, bb2, bb3, bb4, bb5, bb6⟩, ⟨cc0, cc1, cc2, cc3, cc4, cc5, cc6⟩, ⟨dd0, dd1, dd2, dd3, dd4, dd5, dd6⟩⟩ := hSw; go_simp; with_reducible rfl
  try simp only [Act.put, List.getElem_toArray, List.getElem_cons_succ, List.getElem_cons_zero, List.setIfInBounds_toArray, List.set_cons_zero, List.set_cons_succ]
  refine wpAnyE.take (i := 17) (v := ?_) rfl (by kernel_rfl) (by kernel_rfl) (by kernel_rfl) (by kernel_rfl) (fun _ _ _ h => h) (Or.inl ⟨by rfl, ?_⟩) (by assumption) ?_
  rotate_left
  · intro w hSw; obtain ⟨⟨aa0, aa1, aa2, aa3, aa4, aa5, aa6⟩, ⟨bb0, bb1, bb2, bb3, bb4, bb5, bb6⟩, ⟨cc0, cc1, cc2, cc3, cc4, cc5, cc6⟩, ⟨dd0, dd1, dd2, dd3, dd4, dd5, dd6⟩⟩ := hSw; go_simp; with_reducible rfl
  try simp only [Act.put, List.getElem_toArray, List.getElem_cons_succ, List.getElem_cons_zero, List.setIfInBounds_toArray, List.set_cons_zero, List.set_cons_succ]
  refine wpAnyE.take (i := 18) (v := ?_) rfl (by kernel_rfl) (by kernel_rfl) (by kernel_rfl) (by kernel_rfl) (fun _ _ _ h => h) (Or.inl ⟨by rfl, ?_⟩) (by assumption) ?_
  rotate_left
  · intro w hSw; obtain ⟨⟨aa0, aa1, aa2, aa3, aa4, aa5, aa6⟩, ⟨bb0, bb1, bb2, bb3, bb4, bb5, bb6⟩, ⟨cc0, cc1, cc2, cc3, cc4, cc5, cc6⟩, ⟨dd0, dd1, dd2, dd3, dd4, dd5, dd6⟩⟩ := hSw; go_simp; with_reducible rfl
  try simp only [Act.put, List.getElem_toArray, List.getElem_cons_succ, List.getElem_cons_zero, List.setIfInBounds_toArray, List.set_cons_zero, List.set_cons_succ]
  refine wpAnyE.take (i := 19) (v := ?_) rfl (by kernel_rfl) (by kernel_rfl) (by kernel_rfl) (by kernel_rfl) (fun _ _ _ h => h) (Or.inl ⟨by rfl, ?_⟩) (by assumption) ?_
  rotate_left
  · intro w hSw; obtain ⟨⟨aa0, aa1, aa2, aa3, aa4, aa5, aa6⟩, ⟨bb0, bb1, bb2, bb3, bb4, bb5, bb6⟩, ⟨cc0, cc1, cc2, cc3, cc4, cc5, cc6⟩, ⟨dd0, dd1, dd2, dd3, dd4, dd5, dd6⟩⟩ := hSw; go_simp; with_reducible rfl
  try simp only [Act.put, List.getElem_toArray, List.getElem_cons_succ, List.getElem_cons_zero, List.setIfInBounds_toArray, List.set_cons_zero, List.set_cons_succ]
  refine wpAnyE.take (i := 20) (v := ?_) rfl (by kernel_rfl) (by kernel_rfl) (by kernel_rfl) (by kernel_rfl) (fun _ _ _ h => h) (Or.inl ⟨by rfl, ?_⟩) (by assumption) ?_
  rotate_left
  · intro w hSw; obtain ⟨⟨aa0, aa1, aa2, aa3, aa4, aa5, aa6⟩, ⟨bb0, bb1, bb2, bb3, bb4, bb5, bb6⟩, ⟨cc0, cc1, cc2, cc3, cc4, cc5, cc6⟩, ⟨dd0, dd1, dd2, dd3, dd4, dd5, dd6⟩⟩ := hSw; go_simp; with_reducible rfl
  try simp only [Act.put, List.getElem_toArray, List.getElem_cons_succ, List.getElem_cons_zero, List.setIfInBounds_toArray, List.set_cons_zero, List.set_cons_succ]
  refine wpAnyE.take (i := 21) (v := ?_) rfl (by kernel_rfl) (by kernel_rfl) (by kernel_rfl) (by kernel_rfl) (fun _ _ _ h => h) (Or.inl ⟨by rfl, ?_⟩) (by assumption) ?_
  rotate_left
  · intro w hSw; obtain ⟨⟨aa0, aa1, aa2, aa3, aa4, aa5, aa6⟩, ⟨bb0, bb1, bb2, bb3, bb4, bb5, bb6⟩, ⟨cc0, cc1, cc2, cc3, cc4, cc5, cc6⟩, ⟨dd0, dd1, dd2, dd3, dd4, dd5, dd6⟩⟩ := hSw; go_simp; with_reducible rfl
  try simp only [Act.put, List.getElem_toArray, List.getElem_cons_succ, List.getElem_cons_zero, List.setIfInBounds_toArray, List.set_cons_zero, List.set_cons_succ]
  refine wpAnyE.take (i := 22) (v := ?_) rfl (by kernel_rfl) (by kernel_rfl) (by kernel_rfl) (by kernel_rfl) (fun _ _ _ h => h) (Or.inl ⟨by rfl, ?_⟩) (by assumption) ?_
  rotate_left
  · intro w hSw; obtain ⟨⟨aa0, aa1, aa2, aa3, aa4, aa5, aa6⟩, ⟨bb0, bb1, bb2, bb3, bb4, bb5, bb6⟩, ⟨cc0, cc1, cc2, cc3, cc4, cc5, cc6⟩, ⟨dd0, dd1, dd2, dd3, dd4, dd5, dd6⟩⟩ := hSw; go_simp; with_reducible rfl
  try simp only [Act.put, List.getElem_toArray, List.getElem_cons_succ, List.getElem_cons_zero, List.setIfInBounds_toArray, List.set_cons_zero, List.set_cons_succ]
  refine wpAnyE.take (i := 23) (v := ?_) rfl (by kernel_rfl) (by kernel_rfl) (by kernel_rfl) (by kernel_rfl) (fun _ _ _ h => h) (Or.inl ⟨by rfl, ?_⟩) (by assumption) ?_
  rotate_left
  · intro w hSw; obtain ⟨⟨aa0, aa1, aa2, aa3, aa4, aa5, aa6⟩, ⟨bb0, bb1, bb2, bb3, bb4, bb5, bb6⟩, ⟨cc0, cc1, cc2, cc3, cc4, cc5, cc6⟩, ⟨dd0, dd1, dd2, dd3, dd4, dd5, dd6⟩⟩ := hSw; go_simp; with_reducible rfl
  try simp only [Act.put, List.getElem_toArray, List.getElem_cons_succ, List.getElem_cons_zero, List.setIfInBounds_toArray, List.set_cons_zero, List.set_cons_succ]
  refine wpAnyE.take (i := 24) (v := ?_) rfl (by kernel_rfl) (by kernel_rfl) (by kernel_rfl) (by kernel_rfl) (fun _ _ _ h => h) (Or.inl ⟨by rfl, ?_⟩) (by assumption) ?_
  rotate_left
  · intro w hSw; obtain ⟨⟨aa0, aa1, aa2, aa3, aa4, aa5, aa6⟩, ⟨bb0, bb1, bb2, bb3, bb4, bb5, bb6⟩, ⟨cc0, cc1, cc2, cc3, cc4, cc5, cc6⟩, ⟨dd0, dd1, dd2, dd3, dd4, dd5, dd6⟩⟩ := hSw; go_simp; with_reducible rfl
  try simp only [Act.put, List.getElem_toArray, List.getElem_cons_succ, List.getElem_cons_zero, List.setIfInBounds_toArray, List.set_cons_zero, List.set_cons_succ]
  refine wpAnyE.take (i := 25) (v := ?_) rfl (by kernel_rfl) (by kernel_rfl) (by kernel_rfl) (by kernel_rfl) (fun _ _ _ h => h) (Or.inl ⟨by rfl, ?_⟩) (by assumption) ?_
  rotate_left
  · intro w hSw; obtain ⟨⟨aa0, aa1, aa2, aa3, aa4, aa5, aa6⟩, ⟨bb0, bb1, bb2, bb3, bb4, bb5, bb6⟩, ⟨cc0, cc1, cc2, cc3, cc4, cc5, cc6⟩, ⟨dd0, dd1, dd2, dd3, dd4, dd5, dd6⟩⟩ := hSw; go_simp; with_reducible rfl
  try simp only [Act.put, List.getElem_toArray, List.getElem_cons_succ, List.getElem_cons_zero, List.setIfInBounds_toArray, List.set_cons_zero, List.set_cons_succ]
  refine wpAnyE.take (i := 26) (v := ?_) rfl (by kernel_rfl) (by kernel_rfl) (by kernel_rfl) (by kernel_rfl) (fun _ _ _ h => h) (Or.inl ⟨by rfl, ?_⟩) (by assumption) ?_
  rotate_left
  · intro w hSw; obtain ⟨⟨aa0, aa1, aa2, aa3, aa4, aa5, aa6⟩, ⟨bb0, bb1, bb2, bb3, bb4, bb5, bb6⟩, ⟨cc0, cc1, cc2, cc3, cc4, cc5, cc6⟩, ⟨dd0, dd1, dd2, dd3, dd4, dd5, dd6⟩⟩ := hSw; go_simp; with_reducible rfl
  try simp only [Act.put, List.getElem_toArray, List.getElem_cons_succ, List.getElem_cons_zero, List.setIfInBounds_toArray, List.set_cons_zero, List.set_cons_succ]
  refine wpAnyE.take (i := 27) (v := ?_) rfl (by kernel_rfl) (by kernel_rfl) (by kernel_rfl) (by kernel_rfl) (fun _ _ _ h => h) (Or.inl ⟨by rfl, ?_⟩) (by assumption) ?_
  rotate_left
  · intro w hSw; obtain ⟨⟨aa0, aa1, aa2, aa3, aa4, aa5, aa6⟩, ⟨bb0, bb1, bb2, bb3, bb4, bb5, bb6⟩, ⟨cc0, cc1, cc2, cc3, cc4, cc5, cc6⟩, ⟨dd0, dd1, dd2, dd3, dd4, dd5, dd6⟩⟩ := hSw; go_simp; with_reducible rfl
  try simp only [Act.put, List.getElem_toArray, List.getElem_cons_succ, List.getElem_cons_zero, List.setIfInBounds_toArray, List.set_cons_zero, List.set_cons_succ]
  refine wpAnyE.take (i := 28) (v := ?_) rfl (by kernel_rfl) (by kernel_rfl) (by kernel_rfl) (by kernel_rfl) (fun _ _ _ h => h) (Or.inl ⟨by rfl, ?_⟩) (by assumption) ?_
  rotate_left
  · intro w hSw; obtain ⟨⟨aa0, aa1, aa2, aa3, aa4, aa5, aa6⟩, ⟨bb0, bb1, bb2, bb3, bb4, bb5, bb6⟩, ⟨cc0, cc1, cc2, cc3, cc4, cc5, cc6⟩, ⟨dd0, dd1, dd2, dd3, dd4, dd5, dd6⟩⟩ := hSw; go_simp; with_reducible rfl
  try simp only [Act.put, List.getElem_toArray, List.getElem_cons_succ, List.getElem_cons_zero, List.setIfInBounds_toArray, List.set_cons_zero, List.set_cons_succ]
  refine wpAnyE.take (i := 29) (v := ?_) rfl (by kernel_rfl) (by kernel_rfl) (by kernel_rfl) (by kernel_rfl) (fun _ _ _ h => h) (Or.inl ⟨by rfl, ?_⟩) (by assumption) ?_
  rotate_left
  · intro w hSw; obtain ⟨⟨aa0, aa1, aa2, aa3, aa4, aa5, aa6⟩, ⟨bb0, bb1, bb2, bb3, bb4, bb5, bb6⟩, ⟨cc0, cc1, cc2, cc3, cc4, cc5, cc6⟩, ⟨dd0, dd1, dd2, dd3, dd4, dd5, dd6⟩⟩ := hSw; go_simp; with_reducible rfl
  try simp only [Act.put, List.getElem_toArray, List.getElem_cons_succ, List.getElem_cons_zero, List.setIfInBounds_toArray, List.set_cons_zero, List.set_cons_succ]
  refine wpAnyE.take (i := 30) (v := ?_) rfl (by kernel_rfl) (by kernel_rfl) (by kernel_rfl) (by kernel_rfl) (fun _ _ _ h => h) (Or.inl ⟨by rfl, ?_⟩) (by assumption) ?_
  rotate_left
  · intro w hSw; obtain ⟨⟨aa0, aa1, aa2, aa3, aa4, aa5, aa6⟩, ⟨bb0, bb1, bb2, bb3, bb4, bb5, bb6⟩, ⟨cc0, cc1, cc2, cc3, cc4, cc5, cc6⟩, ⟨dd0, dd1, dd2, dd3, dd4, dd5, dd6⟩⟩ := hSw; go_simp; with_reducible rfl
  try simp only [Act.put, List.getElem_toArray, List.getElem_cons_succ, List.getElem_cons_zero, List.setIfInBounds_toArray, List.set_cons_zero, List.set_cons_succ]
  refine wpAnyE.take (i := 31) (v := ?_) rfl (by kernel_rfl) (by kernel_rfl) (by kernel_rfl) (by kernel_rfl) (fun _ _ _ h => h) (Or.inl ⟨by rfl, ?_⟩) (by assumption) ?_
  rotate_left
  · intro w hSw; obtain ⟨⟨aa0, aa1, aa2, aa3, aa4, aa5, aa6⟩, ⟨bb0, bb1, bb2, bb3, bb4, bb5, bb6⟩, ⟨cc0, cc1, cc2, cc3, cc4, cc5, cc6⟩, ⟨dd0, dd1, dd2, dd3, dd4, dd5, dd6⟩⟩ := hSw; go_simp; with_reducible rfl
  try simp only [Act.put, List.getElem_toArray, List.getElem_cons_succ, List.getElem_cons_zero, List.setIfInBounds_toArray, List.set_cons_zero, List.set_cons_succ]
  refine wpAnyE.take (i := 32) (v := ?_) rfl (by kernel_rfl) (by kernel_rfl) (by kernel_rfl) (by kernel_rfl) (fun _ _ _ h => h) (Or.inl ⟨by rfl, ?_⟩) (by assumption) ?_
  rotate_left
  · intro w hSw; obtain ⟨⟨aa0, aa1, aa2, aa3, aa4, aa5, aa6⟩, ⟨bb0, bb1, bb2, bb3, bb4, bb5, bb6⟩, ⟨cc0, cc1, cc2, cc3, cc4, cc5, cc6⟩, ⟨dd0, dd1, dd2, dd3, dd4, dd5, dd6⟩⟩ := hSw; go_simp; with_reducible rfl
  try simp only [Act.put, List.getElem_toArray, List.getElem_cons_succ, List.getElem_cons_zero, List.setIfInBounds_toArray, List.set_cons_zero, List.set_cons_succ]
  refine wpAnyE.take (i := 33) (v := ?_) rfl (by kernel_rfl) (by kernel_rfl) (by kernel_rfl) (by kernel_rfl) (fun _ _ _ h => h) (Or.inl ⟨by rfl, ?_⟩) (by assumption) ?_
  rotate_left
  · intro w hSw; obtain ⟨⟨aa0, aa1, aa2, aa3, aa4, aa5, aa6⟩, ⟨bb0, bb1, bb2, bb3, bb4, bb5, bb6⟩, ⟨cc0, cc1, cc2, cc3, cc4, cc5, cc6⟩, ⟨dd0, dd1, dd2, dd3, dd4, dd5, dd6⟩⟩ := hSw; go_simp; with_reducible rfl
  try simp only [Act.put, List.getElem_toArray, List.getElem_cons_succ, List.getElem_cons_zero, List.setIfInBounds_toArray, List.set_cons_zero, List.set_cons_succ]
  refine wpAnyE.take (i := 34) (v := ?_) rfl (by kernel_rfl) (by kernel_rfl) (by kernel_rfl) (by kernel_rfl) (fun _ _ _ h => h) (Or.inl ⟨by rfl, ?_⟩) (by assumption) ?_
  rotate_left
  · intro w hSw; obtain ⟨⟨aa0, aa1, aa2, aa3, aa4, aa5, aa6⟩, ⟨bb0, bb1, bb2, bb3, bb4, bb5, bb6⟩, ⟨cc0, cc1, cc2, cc3, cc4, cc5, cc6⟩, ⟨dd0, dd1, dd2, dd3, dd4, dd5, dd6⟩⟩ := hSw; go_simp; with_reducible rfl
  try simp only [Act.put, List.getElem_toArray, List.getElem_cons_succ, List.getElem_cons_zero, List.setIfInBounds_toArray, List.set_cons_zero, List.set_cons_succ]
  refine wpAnyE.take (i := 35) (v := ?_) rfl (by kernel_rfl) (by kernel_rfl) (by kernel_rfl) (by kernel_rfl) (fun _ _ _ h => h) (Or.inl ⟨by rfl, ?_⟩) (by assumption) ?_
  rotate_left
  · intro w hSw; obtain ⟨⟨aa0, aa1, aa2, aa3, aa4, aa5, aa6⟩, ⟨bb0, bb1, bb2, bb3, bb4, bb5, bb6⟩, ⟨cc0, cc1, cc2, cc3, cc4, cc5, cc6⟩, ⟨dd0, dd1, dd2, dd3, dd4, dd5, dd6⟩⟩ := hSw; go_simp; with_reducible rfl
  try simp only [Act.put, List.getElem_toArray, List.getElem_cons_succ, List.getElem_cons_zero, List.setIfInBounds_toArray, List.set_cons_zero, List.set_cons_succ]
  refine wpAnyE.take (i := 36) (v := ?_) rfl (by kernel_rfl) (by kernel_rfl) (by kernel_rfl) (by kernel_rfl) (fun _ _ _ h => h) (Or.inl ⟨by rfl, ?_⟩) (by assumption) ?_
  rotate_left
  · intro w hSw; obtain ⟨⟨aa0, aa1, aa2, aa3, aa4, aa5, aa6⟩, ⟨bb0, bb1, bb2, bb3, bb4, bb5, bb6⟩, ⟨cc0, cc1, cc2, cc3, cc4, cc5, cc6⟩, ⟨dd0, dd1, dd2, dd3, dd4, dd5, dd6⟩⟩ := hSw; go_simp; with_reducible rfl
  try simp only [Act.put, List.getElem_toArray, List.getElem_cons_succ, List.getElem_cons_zero, List.setIfInBounds_toArray, List.set_cons_zero, List.set_cons_succ]
  refine wpAnyE.take (i := 37) (v := ?_) rfl (by kernel_rfl) (by kernel_rfl) (by kernel_rfl) (by kernel_rfl) (fun _ _ _ h => h) (Or.inl ⟨by rfl, ?_⟩) (by assumption) ?_
  rotate_left
  · intro w hSw; obtain ⟨⟨aa0, aa1, aa2, aa3, aa4, aa5, aa6⟩, ⟨bb0, bb1, bb2, bb3, bb4, bb5, bb6⟩, ⟨cc0, cc1, cc2, cc3, cc4, cc5, cc6⟩, ⟨dd0, dd1, dd2, dd3, dd4, dd5, dd6⟩⟩ := hSw; go_simp; with_reducible rfl
  try simp only [Act.put, List.getElem_toArray, List.getElem_cons_succ, List.getElem_cons_zero, List.setIfInBounds_toArray, List.set_cons_zero, List.set_cons_succ]
  refine wpAnyE.take (i := 38) (v := ?_) rfl (by kernel_rfl) (by kernel_rfl) (by kernel_rfl) (by kernel_rfl) (fun _ _ _ h => h) (Or.inl ⟨by rfl, ?_⟩) (by assumption) ?_
  rotate_left
  · intro w hSw; obtain ⟨⟨aa0, aa1, aa2, aa3, aa4, aa5, aa6⟩, ⟨bb0, bb1, bb2, bb3, bb4, bb5, bb6⟩, ⟨cc0, cc1, cc2, cc3, cc4, cc5, cc6⟩, ⟨dd0, dd1, dd2, dd3, dd4, dd5, dd6⟩⟩ := hSw; go_simp; with_reducible rfl
  try simp only [Act.put, List.getElem_toArray, List.getElem_cons_succ, List.getElem_cons_zero, List.setIfInBounds_toArray, List.set_cons_zero, List.set_cons_succ]
  refine wpAnyE.take (i := 39) (v := ?_) rfl (by kernel_rfl) (by kernel_rfl) (by kernel_rfl) (by kernel_rfl) (fun _ _ _ h => h) (Or.inl ⟨by rfl, ?_⟩) (by assumption) ?_
  rotate_left
  · intro w hSw; obtain ⟨⟨aa0, aa1, aa2, aa3, aa4, aa5, aa6⟩, ⟨bb0, bb1, bb2, bb3, bb4, bb5, bb6⟩, ⟨cc0, cc1, cc2, cc3, cc4, cc5, cc6⟩, ⟨dd0, dd1, dd2, dd3, dd4, dd5, dd6⟩⟩ := hSw; go_simp; with_reducible rfl
  try simp only [Act.put, List.getElem_toArray, List.getElem_cons_succ, List.getElem_cons_zero, List.setIfInBounds_toArray, List.set_cons_zero, List.set_cons_succ]
  refine wpAnyE.take (i := 40) (v := ?_) rfl (by kernel_rfl) (by kernel_rfl) (by kernel_rfl) (by kernel_rfl) (fun _ _ _ h => h) (Or.inl ⟨by rfl, ?_⟩) (by assumption) ?_
  rotate_left
  · intro w hSw; obtain ⟨⟨aa0, aa1, aa2, aa3, aa4, aa5, aa6⟩, ⟨bb0, bb1, bb2, bb3, bb4, bb5, bb6⟩, ⟨cc0, cc1, cc2, cc3, cc4, cc5, cc6⟩, ⟨dd0, dd1, dd2, dd3, dd4, dd5, dd6⟩⟩ := hSw; go_simp; with_reducible rfl
  try simp only [Act.put, List.getElem_toArray, List.getElem_cons_succ, List.getElem_cons_zero, List.setIfInBounds_toArray, List.set_cons_zero, List.set_cons_succ]
  refine wpAnyE.take (i := 41) (v := ?_) rfl (by kernel_rfl) (by kernel_rfl) (by kernel_rfl) (by kernel_rfl) (fun _ _ _ h => h) (Or.inl ⟨by rfl, ?_⟩) (by assumption) ?_
  rotate_left
  · intro w hSw; obtain ⟨⟨aa0, aa1, aa2, aa3, aa4, aa5, aa6⟩, ⟨bb0, bb1, bb2, bb3, bb4, bb5, bb6⟩, ⟨cc0, cc1, cc2, cc3, cc4, cc5, cc6⟩, ⟨dd0, dd1, dd2, dd3, dd4, dd5, dd6⟩⟩ := hSw; go_simp; with_reducible rfl
  try simp only [Act.put, List.getElem_toArray, List.getElem_cons_succ, List.getElem_cons_zero, List.setIfInBounds_toArray, List.set_cons_zero, List.set_cons_succ]
  refine wpAnyE.take (i := 42) (v := ?_) rfl (by kernel_rfl) (by kernel_rfl) (by kernel_rfl) (by kernel_rfl) (fun _ _ _ h => h) (Or.inl ⟨by rfl, ?_⟩) (by assumption) ?_
  rotate_left
  · intro w hSw; obtain ⟨⟨aa0, aa1, aa2, aa3, aa4, aa5, aa6⟩, ⟨bb0, bb1, bb2, bb3, bb4, bb5, bb6⟩, ⟨cc0, cc1, cc2, cc3, cc4, cc5, cc6⟩, ⟨dd0, dd1, dd2, dd3, dd4, dd5, dd6⟩⟩ := hSw; go_simp; with_reducible rfl
  try simp only [Act.put, List.getElem_toArray, List.getElem_cons_succ, List.getElem_cons_zero, List.setIfInBounds_toArray, List.set_cons_zero, List.set_cons_succ]
  refine wpAnyE.take (i := 43) (v := ?_) rfl (by kernel_rfl) (by kernel_rfl) (by kernel_rfl) (by kernel_rfl) (fun _ _ _ h => h) (Or.inl ⟨by rfl, ?_⟩) (by assumption) ?_
  rotate_left
  · intro w hSw; obtain ⟨⟨aa0, aa1, aa2, aa3, aa4, aa5, aa6⟩, ⟨bb0, bb1, bb2, bb3, bb4, bb5, bb6⟩, ⟨cc0, cc1, cc2, cc3, cc4, cc5, cc6⟩, ⟨dd0, dd1, dd2, dd3, dd4, dd5, dd6⟩⟩ := hSw; go_simp; with_reducible rfl
  try simp only [Act.put, List.getElem_toArray, List.getElem_cons_succ, List.getElem_cons_zero, List.setIfInBounds_toArray, List.set_cons_zero, List.set_cons_succ]
  refine wpAnyE.take (i := 44) (v := ?_) rfl (by kernel_rfl) (by kernel_rfl) (by kernel_rfl) (by kernel_rfl) (fun _ _ _ h => h) (Or.inl ⟨by rfl, ?_⟩) (by assumption) ?_
  rotate_left
  · intro w hSw; obtain ⟨⟨aa0, aa1, aa2, aa3, aa4, aa5, aa6⟩, ⟨bb0, bb1, bb2, bb3, bb4, bb5, bb6⟩, ⟨cc0, cc1, cc2, cc3, cc4, cc5, cc6⟩, ⟨dd0, dd1, dd2, dd3, dd4, dd5, dd6⟩⟩ := hSw; go_simp; with_reducible rfl
  try simp only [Act.put, List.getElem_toArray, List.getElem_cons_succ, List.getElem_cons_zero, List.setIfInBounds_toArray, List.set_cons_zero, List.set_cons_succ]
  refine wpAnyE.take (i := 45) (v := ?_) rfl (by kernel_rfl) (by kernel_rfl) (by kernel_rfl) (by kernel_rfl) (fun _ _ _ h => h) (Or.inl ⟨by rfl, ?_⟩) (by assumption) ?_
  rotate_left
  · intro w hSw; obtain ⟨⟨aa0, aa1, aa2, aa3, aa4, aa5, aa6⟩, ⟨bb0, bb1, bb2, bb3, bb4, bb5, bb6⟩, ⟨cc0, cc1, cc2, cc3, cc4, cc5, cc6⟩, ⟨dd0, dd1, dd2, dd3, dd4, dd5, dd6⟩⟩ := hSw; go_simp; with_reducible rfl
  try simp only [Act.put, List.getElem_toArray, List.getElem_cons_succ, List.getElem_cons_zero, List.setIfInBounds_toArray, List.set_cons_zero, List.set_cons_succ]
  refine wpAnyE.take (i := 46) (v := ?_) rfl (by kernel_rfl) (by kernel_rfl) (by kernel_rfl) (by kernel_rfl) (fun _ _ _ h => h) (Or.inl ⟨by rfl, ?_⟩) (by assumption) ?_
  rotate_left
  · intro w hSw; obtain ⟨⟨aa0, aa1, aa2, aa3, aa4, aa5, aa6⟩, ⟨bb0, bb1, bb2, bb3, bb4, bb5, bb6⟩, ⟨cc0, cc1, cc2, cc3, cc4, cc5, cc6⟩, ⟨dd0, dd1, dd2, dd3, dd4, dd5, dd6⟩⟩ := hSw; go_simp; with_reducible rfl
  try simp only [Act.put, List.getElem_toArray, List.getElem_cons_succ, List.getElem_cons_zero, List.setIfInBounds_toArray, List.set_cons_zero, List.set_cons_succ]
  refine wpAnyE.take (i := 47) (v := ?_) rfl (by kernel_rfl) (by kernel_rfl) (by kernel_rfl) (by kernel_rfl) (fun _ _ _ h => h) (Or.inl ⟨by rfl, ?_⟩) (by assumption) ?_
  rotate_left
  · intro w hSw; obtain ⟨⟨aa0, aa1, aa2, aa3, aa4, aa5, aa6⟩, ⟨bb0, bb1, bb2, bb3, bb4, bb5, bb6⟩, ⟨cc0, cc1, cc2, cc3, cc4, cc5, cc6⟩, ⟨dd0, dd1, dd2, dd3, dd4, dd5, dd6⟩⟩ := hSw; go_simp; with_reducible rfl
  try simp only [Act.put, List.getElem_toArray, List.getElem_cons_succ, List.getElem_cons_zero, List.setIfInBounds_toArray, List.set_cons_zero, List.set_cons_succ]
  refine wpAnyE.take (i := 48) (v := ?_) rfl (by kernel_rfl) (by kernel_rfl) (by kernel_rfl) (by kernel_rfl) (fun _ _ _ h => h) (Or.inl ⟨by rfl, ?_⟩) (by assumption) ?_
  rotate_left
  · intro w hSw; obtain ⟨⟨aa0, aa1, aa2, aa3, aa4, aa5, aa6⟩, ⟨bb0, bb1, bb2, bb3, bb4, bb5, bb6⟩, ⟨cc0, cc1, cc2, cc3, cc4, cc5, cc6⟩, ⟨dd0, dd1, dd2, dd3, dd4, dd5, dd6⟩⟩ := hSw; go_simp; with_reducible rfl
  try simp only [Act.put, List.getElem_toArray, List.getElem_cons_succ, List.getElem_cons_zero, List.setIfInBounds_toArray, List.set_cons_zero, List.set_cons_succ]
  refine wpAnyE.take (i := 49) (v := ?_) rfl (by kernel_rfl) (by kernel_rfl) (by kernel_rfl) (by kernel_rfl) (fun _ _ _ h => h) (Or.inl ⟨by rfl, ?_⟩) (by assumption) ?_
  rotate_left
  · intro w hSw; obtain ⟨⟨aa0, aa1, aa2, aa3, aa4, aa5, aa6⟩, ⟨bb0, bb1, bb2, bb3, bb4, bb5, bb6⟩, ⟨cc0, cc1, cc2, cc3, cc4, cc5, cc6⟩, ⟨dd0, dd1, dd2, dd3, dd4, dd5, dd6⟩⟩ := hSw; go_simp; with_reducible rfl
  try simp only [Act.put, List.getElem_toArray, List.getElem_cons_succ, List.getElem_cons_zero, List.setIfInBounds_toArray, List.set_cons_zero, List.set_cons_succ]
  refine wpAnyE.one (i := 50) (by kernel_rfl) rfl (fun K hK => ?_)
  go_simp
  refine (host_any W1).mono ?_
  rintro e W2 ⟨g5, g6, rfl, hS2, hR2, hb2⟩
  have ka2 := (hb2.block _ (heap_lt ka1)).trans ka1
  have kb2 := (hb2.block _ (heap_lt kb1)).trans kb1
  have kc2 := (hb2.block _ (heap_lt kc1)).trans kc1
  have kd2 := (hb2.block _ (heap_lt kd1)).trans kd1
  have R2 := R1.below hb2
  have hB2 := hB1.trans (hb2.mono hB1.size)
  have hS22 : (W2.cell? ⟨A, 0, none⟩ = some (.slice b0 shelfL.length d0) ∧ W2.cell? ⟨A, 1, none⟩ = some (.slice b1 namesL.length d1) ∧ W2.cell? ⟨A, 2, none⟩ = some (.int .i64 7) ∧ W2.cell? ⟨A, 3, none⟩ = some (.int .i64 1) ∧ W2.cell? ⟨A, 4, none⟩ = some (.slice b2 comeL.length d2) ∧ W2.cell? ⟨A, 5, none⟩ = some (.slice b3 comeU.length d3) ∧ W2.cell? ⟨A, 6, none⟩ = some (.bool false)) ∧ (W2.cell? ⟨B, 0, none⟩ = some (.slice e0 shelfL.length k0) ∧ W2.cell? ⟨B, 1, none⟩ = some (.slice e1 namesL.length k1) ∧ W2.cell? ⟨B, 2, none⟩ = some (.int .i64 7) ∧ W2.cell? ⟨B, 3, none⟩ = some (.int .i64 2) ∧ W2.cell? ⟨B, 4, none⟩ = some (.slice e2 comeL.length k2) ∧ W2.cell? ⟨B, 5, none⟩ = some (.slice e3 comeU.length k3) ∧ W2.cell? ⟨B, 6, none⟩ = some (.bool false)) ∧ (W2.cell? ⟨C, 0, none⟩ = some (.slice h0 CS.length n0) ∧ W2.cell? ⟨C, 1, none⟩ = some (.slice h1 CL.length n1) ∧ W2.cell? ⟨C, 2, none⟩ = some (.int .i64 8) ∧ W2.cell? ⟨C, 3, none⟩ = some (.int .i64 0) ∧ W2.cell? ⟨C, 4, none⟩ = some (.slice h2 0 n2) ∧ W2.cell? ⟨C, 5, none⟩ = some (.slice h3 0 n3) ∧ W2.cell? ⟨C, 6, none⟩ = some (.bool false)) ∧ (W2.cell? ⟨D, 0, none⟩ = some (.slice p0 shelfL.length q0) ∧ W2.cell? ⟨D, 1, none⟩ = some (.slice p1 namesL.length q1) ∧ W2.cell? ⟨D, 2, none⟩ = some (.int .i64 7) ∧ W2.cell? ⟨D, 3, none⟩ = some (.int .i64 0) ∧ W2.cell? ⟨D, 4, none⟩ = some (.slice p2 0 q2) ∧ W2.cell? ⟨D, 5, none⟩ = some (.slice p3 0 q3) ∧ W2.cell? ⟨D, 6, none⟩ = some (.bool false)) := ⟨c7_of ka2, c7_of kb2, c7_of kc2, c7_of kd2⟩
  clear hS1 hb2 ka1 kb1 kc1 kd1 R1 hB1
  refine hK _ _ (fun _ => hS22) ?_
  clear hK K
  try simp only [Act.put, List.getElem_toArray, List.getElem_cons_succ, List.getElem_cons_zero, List.setIfInBounds_toArray, List.set_cons_zero, List.set_cons_succ]
  refine wpAnyE.one (i := 51) (by kernel_rfl) rfl (fun K hK => ?_)
  go_simp
  refine (sameRep_any p0 q0 (some ⟨g5, 0, none⟩) 5 shelfL p1 q1 (some ⟨g6, 0, none⟩) 2 namesL 7 p2 q2 p3 q3 none 0 none 0 W2 R2.hs hS2 (by decide) R2.hl hR2 (by decide)).mono ?_
  rintro e W3 ⟨rfl, hb3⟩
  have ka3' := (hb3.block _ (heap_lt ka2)).trans ka2
  have kb3' := (hb3.block _ (heap_lt kb2)).trans kb2
  have kc3' := (hb3.block _ (heap_lt kc2)).trans kc2
  have kd3' := (hb3.block _ (heap_lt kd2)).trans kd2
  have hB3 := hB2.trans (hb3.mono hB2.size)
  have hS3 : (W3.cell? ⟨A, 0, none⟩ = some (.slice b0 shelfL.length d0) ∧ W3.cell? ⟨A, 1, none⟩ = some (.slice b1 namesL.length d1) ∧ W3.cell? ⟨A, 2, none⟩ = some (.int .i64 7) ∧ W3.cell? ⟨A, 3, none⟩ = some (.int .i64 1) ∧ W3.cell? ⟨A, 4, none⟩ = some (.slice b2 comeL.length d2) ∧ W3.cell? ⟨A, 5, none⟩ = some (.slice b3 comeU.length d3) ∧ W3.cell? ⟨A, 6, none⟩ = some (.bool false)) ∧ (W3.cell? ⟨B, 0, none⟩ = some (.slice e0 shelfL.length k0) ∧ W3.cell? ⟨B, 1, none⟩ = some (.slice e1 namesL.length k1) ∧ W3.cell? ⟨B, 2, none⟩ = some (.int .i64 7) ∧ W3.cell? ⟨B, 3, none⟩ = some (.int .i64 2) ∧ W3.cell? ⟨B, 4, none⟩ = some (.slice e2 comeL.length k2) ∧ W3.cell? ⟨B, 5, none⟩ = some (.slice e3 comeU.length k3) ∧ W3.cell? ⟨B, 6, none⟩ = some (.bool false)) ∧ (W3.cell? ⟨C, 0, none⟩ = some (.slice h0 CS.length n0) ∧ W3.cell? ⟨C, 1, none⟩ = some (.slice h1 CL.length n1) ∧ W3.cell? ⟨C, 2, none⟩ = some (.int .i64 8) ∧ W3.cell? ⟨C, 3, none⟩ = some (.int .i64 0) ∧ W3.cell? ⟨C, 4, none⟩ = some (.slice h2 0 n2) ∧ W3.cell? ⟨C, 5, none⟩ = some (.slice h3 0 n3) ∧ W3.cell? ⟨C, 6, none⟩ = some (.bool false)) ∧ (W3.cell? ⟨D, 0, none⟩ = some (.slice p0 shelfL.length q0) ∧ W3.cell? ⟨D, 1, none⟩ = some (.slice p1 namesL.length q1) ∧ W3.cell? ⟨D, 2, none⟩ = some (.int .i64 7) ∧ W3.cell? ⟨D, 3, none⟩ = some (.int .i64 0) ∧ W3.cell? ⟨D, 4, none⟩ = some (.slice p2 0 q2) ∧ W3.cell? ⟨D, 5, none⟩ = some (.slice p3 0 q3) ∧ W3.cell? ⟨D, 6, none⟩ = some (.bool false)) := ⟨c7_of ka3', c7_of kb3', c7_of kc3', c7_of kd3'⟩
  clear hS22 hb3 ka2 kb2 kc2 kd2 R2 hB2
  refine hK _ _ (fun _ => hS3) ?_
  clear hK K
  try simp only [Act.put, List.getElem_toArray, List.getElem_cons_succ, List.getElem_cons_zero, List.setIfInBounds_toArray, List.set_cons_zero, List.set_cons_succ]
  refine wpAnyE.take (i := 52) (v := ?_) rfl (by kernel_rfl) (by kernel_rfl) (by kernel_rfl) (by kernel_rfl) (fun _ _ _ h => h) (Or.inl ⟨by rfl, ?_⟩) (by assumption) ?_
  rotate_left
  · intro w hSw; go_simp; with_reducible rfl
  try simp only [Act.put, List.getElem_toArray, List.getElem_cons_succ, List.getElem_cons_zero, List.setIfInBounds_toArray, List.set_cons_zero, List.set_cons_succ]
  refine wpAnyE.one (i := 53) (by kernel_rfl) rfl (fun K hK => ?_)
  go_simp
  refine hK _ _ (fun _ => hS3) ?_
  clear hK K
  try simp only [Act.put, List.getElem_toArray, List.getElem_cons_succ, List.getElem_cons_zero, List.setIfInBounds_toArray, List.set_cons_zero, List.set_cons_succ]
  refine wpAnyE.done (by kernel_rfl) ?_
  clear hS3
  go_wp2
  go_ret
  exact ⟨rfl, hB3⟩
end Go.Proofs.YtgkmoehbjdmefaaGreatDoor
