import Derived.Test.YtdclffgbmcecdaaA15
namespace Go.Proofs.Ytdclffgbmcecdaa
open Go.RowKit

theorem Cells4.new2 (w : World) (o : Obj) (x0 x1 x2 x3 : Value) (e : Nat) : Cells4 (w.heap.size + 1) x0 x1 x2 x3 ((w.alloc o).alloc (.cells #[x0, x1, x2, x3] e)) := by
  have := Cells4.new (w.alloc o) x0 x1 x2 x3 e
  simpa using this

theorem same_iff {i k i' k' : Int} {L L' : List Int} {t t' : ByteArray} : sameO i k L t i' k' L' t' = true ↔ i = i' ∧ k = k' ∧ L = L' ∧ t = t' := by
  simp only [sameO, sameB, Bool.and_eq_true, decide_eq_true_eq]
  constructor
  · rintro ⟨⟨⟨h1, h2⟩, h3⟩, h4⟩
    refine ⟨h1, h2, h4, nums_inj ?_⟩
    rw [ByteArray.toList_eq, ByteArray.toList_eq] at h3
    rw [nums, nums, h3]
  · rintro ⟨rfl, rfl, rfl, rfl⟩
    simp

theorem apart_iff {i k i' k' : Int} {L L' : List Int} {t t' : ByteArray} (h : checkE i k L t.size = 0) (h' : checkE i' k' L' t'.size = 0) :
    ((strOfNums (encNums i' k' L' t'.size) ++ t').extract 0 (strOfNums (encNums i k L t.size) ++ t).size = strOfNums (encNums i k L t.size) ++ t) ↔ sameO i k L t i' k' L' t' = true := by
  rw [same_iff]
  constructor
  · intro e
    have e1 := congrArg nums e
    rw [nums_extract, enc_nums h, enc_nums h'] at e1
    have hb : Begins (strOfNums (encNums i' k' L' t'.size) ++ t') i k L (nums t) := ⟨(encN i' k' L' (nums t')).drop (strOfNums (encNums i k L t.size) ++ t).size, by rw [enc_nums h', ← e1, List.take_append_drop]⟩
    have hb' : Begins (strOfNums (encNums i' k' L' t'.size) ++ t') i' k' L' (nums t') := ⟨[], by rw [enc_nums h', List.append_nil]⟩
    obtain ⟨h1, h2, h3, h4⟩ := begins_unique hb hb'
    exact ⟨h1, h2, h3, nums_inj h4⟩
  · rintro ⟨rfl, rfl, rfl, rfl⟩
    refine nums_inj ?_
    rw [nums_extract, ← nums_len, List.take_length]

theorem apart_end {E1 E2 : ByteArray} {n : Nat} {b : Bool} (h : E2.extract 0 n = E1 ↔ b = true) : ((E2.extract 0 n).toList == E1.toList) = b ↔ True := by
  simp only [iff_true]
  rw [Bool.eq_iff_iff, ← h, beq_iff_eq]
  constructor
  · intro e
    rw [ByteArray.toList_eq, ByteArray.toList_eq] at e
    exact nums_inj (by rw [nums, nums, e])
  · intro e
    rw [e]
theorem apart_bool {E1 E2 : ByteArray} {n : Nat} {b : Bool} (h : E2.extract 0 n = E1 ↔ b = true) : (((E2.extract 0 n).toList == E1.toList) == b) = true := by
  rw [(apart_end h).2 trivial]; simp

set_option maxHeartbeats 800000 in
theorem objectApart_ee (i1 k1 : Int) (a1 : Option Addr) (c1 : Nat) (L1 : List Int) (t1 : ByteArray) (i2 k2 : Int) (a2 : Option Addr) (c2 : Nat) (L2 : List Int) (t2 : ByteArray) (w : World)
    (h1 : Holds w a1 L1) (h2 : Holds w a2 L2) (l1 : L1.length ≤ 9223372036854775807) (he1 : checkE i1 k1 L1 t1.size ≠ 0) (l2 : L2.length ≤ 9223372036854775807) (he2 : checkE i2 k2 L2 t2.size ≠ 0) :
    Calls Try.prog 6 #[.agg #[.int .i64 i1, .int .i64 k1, .slice a1 L1.length c1, .string t1], .agg #[.int .i64 i2, .int .i64 k2, .slice a2 L2.length c2, .string t2]] w
      fun e w' => e = .returned (.bool true) ∧ Below w.heap.size w w' := by
  have HE1 : Hid (checkE i1 k1 L1 t1.size ≠ 0) := he1
  have hb1 : (checkE i1 k1 L1 t1.size != 0) = true := by simpa using he1
  have hq1 : (checkE i1 k1 L1 t1.size == 0) = false := by simpa using he1
  clear he1
  have HE2 : Hid (checkE i2 k2 L2 t2.size ≠ 0) := he2
  have hb2 : (checkE i2 k2 L2 t2.size != 0) = true := by simpa using he2
  have hq2 : (checkE i2 k2 L2 t2.size == 0) = false := by simpa using he2
  clear he2
  go_enter Try.func6, Try.ntmps6
  go_wp2_with fail
  have hB0 := below_alloc2 w (.cells #[.int .i64 i1, .int .i64 k1, .slice a1 L1.length c1, .string t1] 24) (.cells #[.int .i64 i2, .int .i64 k2, .slice a2 L2.length c2, .string t2] 24)
  have p1 := h1.below hB0
  have p2 := h2.below hB0
  have C1 := (Cells4.new w (.int .i64 i1) (.int .i64 k1) (.slice a1 L1.length c1) (.string t1) 24).below (below_alloc _ (.cells #[.int .i64 i2, .int .i64 k2, .slice a2 L2.length c2, .string t2] 24)) (by simp)
  have C2 := Cells4.new2 w (.cells #[.int .i64 i1, .int .i64 k1, .slice a1 L1.length c1, .string t1] 24) (.int .i64 i2) (.int .i64 k2) (.slice a2 L2.length c2) (.string t2) 24
  refine (encode_err i1 k1 a1 c1 L1 t1 _ p1 l1 HE1.out).mono ?_
  rintro e w1 ⟨rfl, hb⟩
  have hB1 := hB0.trans (hb.mono (by simp; omega))
  have D1 := C1.below hb C1.lt
  have D2 := C2.below hb C2.lt
  have q1 := p1.below hb
  have q2 := p2.below hb
  clear hb C1 C2 p1 p2 hB0
  have d0 := D2.c0
  have d1 := D2.c1
  have d2 := D2.c2
  have d3 := D2.c3
  go_wp2_with fail
  refine (encode_err i2 k2 a2 c2 L2 t2 _ q2 l2 HE2.out).mono ?_
  rintro e w2 ⟨rfl, hb⟩
  have hB2 := hB1.trans (hb.mono hB1.size)
  have F1 := D1.below hb D1.lt
  have F2 := D2.below hb D2.lt
  have r1 := q1.below hb
  have r2 := q2.below hb
  clear hb D1 D2 q1 q2 hB1 d0 d1 d2 d3
  go_wp2_with fail
  refine (objectBegun_any _).mono ?_
  rintro e w3 ⟨rfl, hb⟩
  have hB3 := hB2.trans (hb.mono hB2.size)
  have G1 := F1.below hb F1.lt
  have G2 := F2.below hb F2.lt
  have s1 := r1.below hb
  have s2 := r2.below hb
  clear hb F1 F2 r1 r2 hB2
  clear G1 G2 s1 s2
  go_wp2
  all_goals go_ret
  all_goals exact ⟨rfl, hB3⟩

set_option maxHeartbeats 800000 in
theorem objectApart_eo (i1 k1 : Int) (a1 : Option Addr) (c1 : Nat) (L1 : List Int) (t1 : ByteArray) (i2 k2 : Int) (a2 : Option Addr) (c2 : Nat) (L2 : List Int) (t2 : ByteArray) (w : World)
    (h1 : Holds w a1 L1) (h2 : Holds w a2 L2) (l1 : L1.length ≤ 9223372036854775807) (he1 : checkE i1 k1 L1 t1.size ≠ 0) (he2 : checkE i2 k2 L2 t2.size = 0) :
    Calls Try.prog 6 #[.agg #[.int .i64 i1, .int .i64 k1, .slice a1 L1.length c1, .string t1], .agg #[.int .i64 i2, .int .i64 k2, .slice a2 L2.length c2, .string t2]] w
      fun e w' => e = .returned (.bool true) ∧ Below w.heap.size w w' := by
  have HE1 : Hid (checkE i1 k1 L1 t1.size ≠ 0) := he1
  have hb1 : (checkE i1 k1 L1 t1.size != 0) = true := by simpa using he1
  have hq1 : (checkE i1 k1 L1 t1.size == 0) = false := by simpa using he1
  clear he1
  have HE2 : Hid (checkE i2 k2 L2 t2.size = 0) := he2
  clear he2
  go_enter Try.func6, Try.ntmps6
  go_wp2_with fail
  have hB0 := below_alloc2 w (.cells #[.int .i64 i1, .int .i64 k1, .slice a1 L1.length c1, .string t1] 24) (.cells #[.int .i64 i2, .int .i64 k2, .slice a2 L2.length c2, .string t2] 24)
  have p1 := h1.below hB0
  have p2 := h2.below hB0
  have C1 := (Cells4.new w (.int .i64 i1) (.int .i64 k1) (.slice a1 L1.length c1) (.string t1) 24).below (below_alloc _ (.cells #[.int .i64 i2, .int .i64 k2, .slice a2 L2.length c2, .string t2] 24)) (by simp)
  have C2 := Cells4.new2 w (.cells #[.int .i64 i1, .int .i64 k1, .slice a1 L1.length c1, .string t1] 24) (.int .i64 i2) (.int .i64 k2) (.slice a2 L2.length c2) (.string t2) 24
  refine (encode_err i1 k1 a1 c1 L1 t1 _ p1 l1 HE1.out).mono ?_
  rintro e w1 ⟨rfl, hb⟩
  have hB1 := hB0.trans (hb.mono (by simp; omega))
  have D1 := C1.below hb C1.lt
  have D2 := C2.below hb C2.lt
  have q1 := p1.below hb
  have q2 := p2.below hb
  clear hb C1 C2 p1 p2 hB0
  have d0 := D2.c0
  have d1 := D2.c1
  have d2 := D2.c2
  have d3 := D2.c3
  go_wp2_with fail
  refine (encode_ok i2 k2 a2 c2 L2 t2 _ q2 HE2.out).mono ?_
  rintro e w2 ⟨rfl, hb⟩
  have hB2 := hB1.trans (hb.mono hB1.size)
  have F1 := D1.below hb D1.lt
  have F2 := D2.below hb D2.lt
  have r1 := q1.below hb
  have r2 := q2.below hb
  clear hb D1 D2 q1 q2 hB1 d0 d1 d2 d3
  have hE2 : (strOfNums (encNums i2 k2 L2 t2.size) ++ t2).size ≤ 1000 := by
    obtain ⟨_, _, x3, x4, _, _⟩ := checkE_zero HE2.out
    rw [← nums_len, enc_nums HE2.out]; simp [encN, nums_len]; omega
  obtain ⟨E2, hE2'⟩ : ∃ E2, E2 = strOfNums (encNums i2 k2 L2 t2.size) ++ t2 := ⟨_, rfl⟩
  rw [← hE2'] at hE2 ⊢
  have HE2' : Hid (E2 = strOfNums (encNums i2 k2 L2 t2.size) ++ t2) := hE2'
  clear hE2'
  go_wp2_with fail
  refine (objectBegun_any _).mono ?_
  rintro e w3 ⟨rfl, hb⟩
  have hB3 := hB2.trans (hb.mono hB2.size)
  have G1 := F1.below hb F1.lt
  have G2 := F2.below hb F2.lt
  have s1 := r1.below hb
  have s2 := r2.below hb
  clear hb F1 F2 r1 r2 hB2
  clear G1 G2 s1 s2
  go_wp2
  all_goals go_ret
  all_goals exact ⟨rfl, hB3⟩

set_option maxHeartbeats 800000 in
theorem objectApart_oe (i1 k1 : Int) (a1 : Option Addr) (c1 : Nat) (L1 : List Int) (t1 : ByteArray) (i2 k2 : Int) (a2 : Option Addr) (c2 : Nat) (L2 : List Int) (t2 : ByteArray) (w : World)
    (h1 : Holds w a1 L1) (h2 : Holds w a2 L2) (he1 : checkE i1 k1 L1 t1.size = 0) (l2 : L2.length ≤ 9223372036854775807) (he2 : checkE i2 k2 L2 t2.size ≠ 0) :
    Calls Try.prog 6 #[.agg #[.int .i64 i1, .int .i64 k1, .slice a1 L1.length c1, .string t1], .agg #[.int .i64 i2, .int .i64 k2, .slice a2 L2.length c2, .string t2]] w
      fun e w' => e = .returned (.bool true) ∧ Below w.heap.size w w' := by
  have HE1 : Hid (checkE i1 k1 L1 t1.size = 0) := he1
  clear he1
  have HE2 : Hid (checkE i2 k2 L2 t2.size ≠ 0) := he2
  have hb2 : (checkE i2 k2 L2 t2.size != 0) = true := by simpa using he2
  have hq2 : (checkE i2 k2 L2 t2.size == 0) = false := by simpa using he2
  clear he2
  go_enter Try.func6, Try.ntmps6
  go_wp2_with fail
  have hB0 := below_alloc2 w (.cells #[.int .i64 i1, .int .i64 k1, .slice a1 L1.length c1, .string t1] 24) (.cells #[.int .i64 i2, .int .i64 k2, .slice a2 L2.length c2, .string t2] 24)
  have p1 := h1.below hB0
  have p2 := h2.below hB0
  have C1 := (Cells4.new w (.int .i64 i1) (.int .i64 k1) (.slice a1 L1.length c1) (.string t1) 24).below (below_alloc _ (.cells #[.int .i64 i2, .int .i64 k2, .slice a2 L2.length c2, .string t2] 24)) (by simp)
  have C2 := Cells4.new2 w (.cells #[.int .i64 i1, .int .i64 k1, .slice a1 L1.length c1, .string t1] 24) (.int .i64 i2) (.int .i64 k2) (.slice a2 L2.length c2) (.string t2) 24
  refine (encode_ok i1 k1 a1 c1 L1 t1 _ p1 HE1.out).mono ?_
  rintro e w1 ⟨rfl, hb⟩
  have hB1 := hB0.trans (hb.mono (by simp; omega))
  have D1 := C1.below hb C1.lt
  have D2 := C2.below hb C2.lt
  have q1 := p1.below hb
  have q2 := p2.below hb
  clear hb C1 C2 p1 p2 hB0
  have d0 := D2.c0
  have d1 := D2.c1
  have d2 := D2.c2
  have d3 := D2.c3
  have hE1 : (strOfNums (encNums i1 k1 L1 t1.size) ++ t1).size ≤ 1000 := by
    obtain ⟨_, _, x3, x4, _, _⟩ := checkE_zero HE1.out
    rw [← nums_len, enc_nums HE1.out]; simp [encN, nums_len]; omega
  obtain ⟨E1, hE1'⟩ : ∃ E1, E1 = strOfNums (encNums i1 k1 L1 t1.size) ++ t1 := ⟨_, rfl⟩
  rw [← hE1'] at hE1 ⊢
  have HE1' : Hid (E1 = strOfNums (encNums i1 k1 L1 t1.size) ++ t1) := hE1'
  clear hE1'
  go_wp2_with fail
  refine (encode_err i2 k2 a2 c2 L2 t2 _ q2 l2 HE2.out).mono ?_
  rintro e w2 ⟨rfl, hb⟩
  have hB2 := hB1.trans (hb.mono hB1.size)
  have F1 := D1.below hb D1.lt
  have F2 := D2.below hb D2.lt
  have r1 := q1.below hb
  have r2 := q2.below hb
  clear hb D1 D2 q1 q2 hB1 d0 d1 d2 d3
  go_wp2_with fail
  refine (objectBegun_any _).mono ?_
  rintro e w3 ⟨rfl, hb⟩
  have hB3 := hB2.trans (hb.mono hB2.size)
  have G1 := F1.below hb F1.lt
  have G2 := F2.below hb F2.lt
  have s1 := r1.below hb
  have s2 := r2.below hb
  clear hb F1 F2 r1 r2 hB2
  clear G1 G2 s1 s2
  go_wp2
  all_goals go_ret
  all_goals exact ⟨rfl, hB3⟩

set_option maxHeartbeats 800000 in
theorem objectApart_oo (i1 k1 : Int) (a1 : Option Addr) (c1 : Nat) (L1 : List Int) (t1 : ByteArray) (i2 k2 : Int) (a2 : Option Addr) (c2 : Nat) (L2 : List Int) (t2 : ByteArray) (w : World)
    (h1 : Holds w a1 L1) (h2 : Holds w a2 L2) (he1 : checkE i1 k1 L1 t1.size = 0) (he2 : checkE i2 k2 L2 t2.size = 0) :
    Calls Try.prog 6 #[.agg #[.int .i64 i1, .int .i64 k1, .slice a1 L1.length c1, .string t1], .agg #[.int .i64 i2, .int .i64 k2, .slice a2 L2.length c2, .string t2]] w
      fun e w' => e = .returned (.bool true) ∧ Below w.heap.size w w' := by
  have HE1 : Hid (checkE i1 k1 L1 t1.size = 0) := he1
  clear he1
  have HE2 : Hid (checkE i2 k2 L2 t2.size = 0) := he2
  clear he2
  go_enter Try.func6, Try.ntmps6
  go_wp2_with fail
  have hB0 := below_alloc2 w (.cells #[.int .i64 i1, .int .i64 k1, .slice a1 L1.length c1, .string t1] 24) (.cells #[.int .i64 i2, .int .i64 k2, .slice a2 L2.length c2, .string t2] 24)
  have p1 := h1.below hB0
  have p2 := h2.below hB0
  have C1 := (Cells4.new w (.int .i64 i1) (.int .i64 k1) (.slice a1 L1.length c1) (.string t1) 24).below (below_alloc _ (.cells #[.int .i64 i2, .int .i64 k2, .slice a2 L2.length c2, .string t2] 24)) (by simp)
  have C2 := Cells4.new2 w (.cells #[.int .i64 i1, .int .i64 k1, .slice a1 L1.length c1, .string t1] 24) (.int .i64 i2) (.int .i64 k2) (.slice a2 L2.length c2) (.string t2) 24
  refine (encode_ok i1 k1 a1 c1 L1 t1 _ p1 HE1.out).mono ?_
  rintro e w1 ⟨rfl, hb⟩
  have hB1 := hB0.trans (hb.mono (by simp; omega))
  have D1 := C1.below hb C1.lt
  have D2 := C2.below hb C2.lt
  have q1 := p1.below hb
  have q2 := p2.below hb
  clear hb C1 C2 p1 p2 hB0
  have d0 := D2.c0
  have d1 := D2.c1
  have d2 := D2.c2
  have d3 := D2.c3
  have hE1 : (strOfNums (encNums i1 k1 L1 t1.size) ++ t1).size ≤ 1000 := by
    obtain ⟨_, _, x3, x4, _, _⟩ := checkE_zero HE1.out
    rw [← nums_len, enc_nums HE1.out]; simp [encN, nums_len]; omega
  obtain ⟨E1, hE1'⟩ : ∃ E1, E1 = strOfNums (encNums i1 k1 L1 t1.size) ++ t1 := ⟨_, rfl⟩
  rw [← hE1'] at hE1 ⊢
  have HE1' : Hid (E1 = strOfNums (encNums i1 k1 L1 t1.size) ++ t1) := hE1'
  clear hE1'
  go_wp2_with fail
  refine (encode_ok i2 k2 a2 c2 L2 t2 _ q2 HE2.out).mono ?_
  rintro e w2 ⟨rfl, hb⟩
  have hB2 := hB1.trans (hb.mono hB1.size)
  have F1 := D1.below hb D1.lt
  have F2 := D2.below hb D2.lt
  have r1 := q1.below hb
  have r2 := q2.below hb
  clear hb D1 D2 q1 q2 hB1 d0 d1 d2 d3
  have hE2 : (strOfNums (encNums i2 k2 L2 t2.size) ++ t2).size ≤ 1000 := by
    obtain ⟨_, _, x3, x4, _, _⟩ := checkE_zero HE2.out
    rw [← nums_len, enc_nums HE2.out]; simp [encN, nums_len]; omega
  obtain ⟨E2, hE2'⟩ : ∃ E2, E2 = strOfNums (encNums i2 k2 L2 t2.size) ++ t2 := ⟨_, rfl⟩
  rw [← hE2'] at hE2 ⊢
  have HE2' : Hid (E2 = strOfNums (encNums i2 k2 L2 t2.size) ++ t2) := hE2'
  clear hE2'
  go_wp2_with fail
  refine (objectBegun_any _).mono ?_
  rintro e w3 ⟨rfl, hb⟩
  have hB3 := hB2.trans (hb.mono hB2.size)
  have G1 := F1.below hb F1.lt
  have G2 := F2.below hb F2.lt
  have s1 := r1.below hb
  have s2 := r2.below hb
  clear hb F1 F2 r1 r2 hB2
  by_cases hlen : (E2.size : Int) < (E1.size : Int)
  · clear G1 G2 s1 s2
    go_wp2
    go_ret
    exact ⟨rfl, hB3⟩
  · have hlen' : (E1.size : Int) ≤ (E2.size : Int) := by omega
    have l1 : L1.length ≤ 4 := (checkE_zero HE1.out).2.2.1
    have hiff := apart_iff HE1.out HE2.out
    rw [← HE1'.out, ← HE2'.out] at hiff
    have HI : Hid (E2.extract 0 E1.size = E1 ↔ sameO i1 k1 L1 t1 i2 k2 L2 t2 = true) := hiff
    clear hiff
    obtain ⟨x0, x1, x2, x3, _, _, _, _, xl⟩ := G1
    obtain ⟨y0, y1, y2, y3, _, _, _, _, yl⟩ := G2
    go_wp2
    refine wp_region_any (by kernel_rfl) ?_
    change wpAny _ _ _ _ _ _ _ (World.drew _)
    refine wpAny_take (i := 0) (v := ?_) rfl (by kernel_rfl) (by kernel_rfl) (by kernel_rfl) (fun _ _ _ h => h) (Or.inl ⟨by rfl, ?_⟩) ?_
    rotate_left
    · intro w; go_simp; with_reducible rfl
    simp only [Act.put, List.getElem_toArray, List.getElem_cons_zero, List.setIfInBounds_toArray, List.set_cons_zero, List.set_cons_succ]
    refine wpAny_take (i := 1) (v := ?_) rfl (by kernel_rfl) (by kernel_rfl) (by kernel_rfl) (fun _ _ _ h => h) (Or.inl ⟨by rfl, ?_⟩) ?_
    rotate_left
    · intro w; go_simp; with_reducible rfl
    simp only [Act.put, List.getElem_toArray, List.getElem_cons_succ, List.getElem_cons_zero, List.setIfInBounds_toArray, List.set_cons_zero, List.set_cons_succ]
    refine wpAny_take (i := 2) (v := ?_) rfl (by kernel_rfl) (by kernel_rfl) (by kernel_rfl) (fun _ _ _ h => h) (Or.inl ⟨by rfl, ?_⟩) ?_
    rotate_left
    · intro w; go_simp; with_reducible rfl
    simp only [Act.put, List.getElem_toArray, List.getElem_cons_succ, List.getElem_cons_zero, List.setIfInBounds_toArray, List.set_cons_zero, List.set_cons_succ]
    refine wpAny_take (i := 3) (v := ?_) rfl (by kernel_rfl) (by kernel_rfl) (by kernel_rfl) (fun _ _ _ h => h) (Or.inl ⟨by rfl, ?_⟩) ?_
    rotate_left
    · intro w; go_simp; with_reducible rfl
    simp only [Act.put, List.getElem_toArray, List.getElem_cons_succ, List.getElem_cons_zero, List.setIfInBounds_toArray, List.set_cons_zero, List.set_cons_succ]
    refine wpAny_take (i := 4) (v := ?_) rfl (by kernel_rfl) (by kernel_rfl) (by kernel_rfl) (fun _ _ _ h => h) (Or.inl ⟨by rfl, ?_⟩) ?_
    rotate_left
    · intro w; go_simp; with_reducible rfl
    simp only [Act.put, List.getElem_toArray, List.getElem_cons_succ, List.getElem_cons_zero, List.setIfInBounds_toArray, List.set_cons_zero, List.set_cons_succ]
    refine wpAny_take (i := 5) (v := ?_) rfl (by kernel_rfl) (by kernel_rfl) (by kernel_rfl) (fun _ _ _ h => h) (Or.inl ⟨by rfl, ?_⟩) ?_
    rotate_left
    · intro w; go_simp; with_reducible rfl
    simp only [Act.put, List.getElem_toArray, List.getElem_cons_succ, List.getElem_cons_zero, List.setIfInBounds_toArray, List.set_cons_zero, List.set_cons_succ]
    refine wpAny_ready (rs := [6, 7]) (by kernel_rfl) (by simp) ?_
    refine AllReady.cons rfl (fun K hK => ?_) (AllReady.cons rfl (fun K hK => ?_) AllReady.nil)
    · go_simp
      refine hK _ _ ?_
      clear hK K
      try simp only [Act.put, List.getElem_toArray, List.getElem_cons_succ, List.getElem_cons_zero, List.setIfInBounds_toArray, List.set_cons_zero, List.set_cons_succ]
      refine wpAny_ready (rs := [7]) (by kernel_rfl) (by simp) ?_
      refine AllReady.cons rfl (fun K hK => ?_) AllReady.nil
      go_simp
      refine hK _ _ ?_
      clear hK K
      try simp only [Act.put, List.getElem_toArray, List.getElem_cons_succ, List.getElem_cons_zero, List.setIfInBounds_toArray, List.set_cons_zero, List.set_cons_succ]
      refine wpAny_ready (rs := [8]) (by kernel_rfl) (by simp) ?_
      refine AllReady.cons rfl (fun K hK => ?_) AllReady.nil
      go_simp
      refine (sameObject_any i1 k1 a1 c1 L1 t1 i2 k2 a2 c2 L2 t2 _ s1.drew s2.drew (by omega)).mono ?_
      rintro e w4 ⟨rfl, hb⟩
      have hB4 := hB3.drew.trans (hb.mono hB3.size)
      clear hb
      go_wp2_with fail
      try simp only [Act.put, List.getElem_toArray, List.getElem_cons_succ, List.getElem_cons_zero, List.setIfInBounds_toArray, List.set_cons_zero, List.set_cons_succ]
      refine wpAny_take (i := 9) (v := ?_) rfl (by kernel_rfl) (by kernel_rfl) (by kernel_rfl) (fun _ _ _ h => h) (Or.inl ⟨by rfl, ?_⟩) ?_
      rotate_left
      · intro w; go_simp; with_reducible rfl
      simp only [Act.put, List.getElem_toArray, List.getElem_cons_succ, List.getElem_cons_zero, List.setIfInBounds_toArray, List.set_cons_zero, List.set_cons_succ]
      refine wpAny_take (i := 10) (v := ?_) rfl (by kernel_rfl) (by kernel_rfl) (by kernel_rfl) (fun _ _ _ h => h) (Or.inl ⟨by rfl, ?_⟩) ?_
      rotate_left
      · intro w; go_simp; with_reducible rfl
      simp only [Act.put, List.getElem_toArray, List.getElem_cons_succ, List.getElem_cons_zero, List.setIfInBounds_toArray, List.set_cons_zero, List.set_cons_succ]
      refine wpAny_done (by kernel_rfl) ?_ _
      go_wp2
      go_ret
      exact ⟨ret_bool (apart_bool HI.out), hB4⟩
    · go_simp
      refine hK _ _ ?_
      clear hK K
      try simp only [Act.put, List.getElem_toArray, List.getElem_cons_succ, List.getElem_cons_zero, List.setIfInBounds_toArray, List.set_cons_zero, List.set_cons_succ]
      refine wpAny_ready (rs := [6]) (by kernel_rfl) (by simp) ?_
      refine AllReady.cons rfl (fun K hK => ?_) AllReady.nil
      go_simp
      refine hK _ _ ?_
      clear hK K
      try simp only [Act.put, List.getElem_toArray, List.getElem_cons_succ, List.getElem_cons_zero, List.setIfInBounds_toArray, List.set_cons_zero, List.set_cons_succ]
      refine wpAny_ready (rs := [8]) (by kernel_rfl) (by simp) ?_
      refine AllReady.cons rfl (fun K hK => ?_) AllReady.nil
      go_simp
      refine (sameObject_any i1 k1 a1 c1 L1 t1 i2 k2 a2 c2 L2 t2 _ s1.drew s2.drew (by omega)).mono ?_
      rintro e w4 ⟨rfl, hb⟩
      have hB4 := hB3.drew.trans (hb.mono hB3.size)
      clear hb
      go_wp2_with fail
      try simp only [Act.put, List.getElem_toArray, List.getElem_cons_succ, List.getElem_cons_zero, List.setIfInBounds_toArray, List.set_cons_zero, List.set_cons_succ]
      refine wpAny_take (i := 9) (v := ?_) rfl (by kernel_rfl) (by kernel_rfl) (by kernel_rfl) (fun _ _ _ h => h) (Or.inl ⟨by rfl, ?_⟩) ?_
      rotate_left
      · intro w; go_simp; with_reducible rfl
      simp only [Act.put, List.getElem_toArray, List.getElem_cons_succ, List.getElem_cons_zero, List.setIfInBounds_toArray, List.set_cons_zero, List.set_cons_succ]
      refine wpAny_take (i := 10) (v := ?_) rfl (by kernel_rfl) (by kernel_rfl) (by kernel_rfl) (fun _ _ _ h => h) (Or.inl ⟨by rfl, ?_⟩) ?_
      rotate_left
      · intro w; go_simp; with_reducible rfl
      simp only [Act.put, List.getElem_toArray, List.getElem_cons_succ, List.getElem_cons_zero, List.setIfInBounds_toArray, List.set_cons_zero, List.set_cons_succ]
      refine wpAny_done (by kernel_rfl) ?_ _
      go_wp2
      go_ret
      exact ⟨ret_bool (apart_bool HI.out), hB4⟩
end Go.Proofs.Ytdclffgbmcecdaa
