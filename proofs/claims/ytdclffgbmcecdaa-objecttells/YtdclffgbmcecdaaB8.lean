import Derived.Test.YtdclffgbmcecdaaB7
namespace Go.Proofs.Ytdclffgbmcecdaa
open Go.RowKit

theorem objectOf_any (s : ByteArray) (w : World) (hs : s.size ≤ 140737488355328) : Calls Try.prog 14 #[.string s] w (DecPost s w) := by
  by_cases h : 2 < s.size
  · obtain ⟨n, hn⟩ : ∃ n, s[2].toNat = n := ⟨_, rfl⟩
    by_cases h3 : 3 + n < s.size
    · obtain ⟨m, hm⟩ : ∃ m, s[3 + n].toNat = m := ⟨_, rfl⟩
      by_cases h4 : 4 + n + m ≤ s.size
      · exact objectOf_ok s w n m hs h hn h3 hm h4
      · exact objectOf_long s w n m hs h hn h3 hm (by omega)
    · exact objectOf_mid s w n hs h hn (by omega)
  · exact objectOf_short s w hs (by omega)

theorem of_begins (s : ByteArray) (w : World) (hs : s.size ≤ 140737488355328) {i k : Int} {L T : List Int} (hb : Begins s i k L T) (hc : checkE i k L T.length = 0) :
    Calls Try.prog 14 #[.string s] w fun e w' => ∃ a cap, e = .returned (.tuple #[.agg #[.int .i64 i, .int .i64 k, .slice a L.length cap, .string (strOfNums T)], .int .i64 ((4 + L.length + T.length : Nat) : Int), .int .i64 0]) ∧ Holds w' a L ∧ Below w.heap.size w w' := by
  refine (objectOf_any s w hs).mono ?_
  rintro e w' ⟨hB, ⟨i', k', L', T', a, cap, hb', _, rfl, hh, _⟩ | ⟨i', k', L', T', hb', hn, _⟩ | ⟨hno, _⟩⟩
  · obtain ⟨rfl, rfl, rfl, rfl⟩ := begins_unique hb hb'
    exact ⟨a, cap, rfl, hh, hB⟩
  · obtain ⟨rfl, rfl, rfl, rfl⟩ := begins_unique hb hb'
    exact absurd hc hn
  · exact absurd hb (hno _ _ _ _)

theorem of_none (s : ByteArray) (w : World) (hs : s.size ≤ 140737488355328) (hno : ∀ i k L T, ¬ Begins s i k L T) :
    Calls Try.prog 14 #[.string s] w fun e w' => e = .returned (.tuple #[zeroO, .int .i64 0, .int .i64 5]) ∧ Below w.heap.size w w' := by
  refine (objectOf_any s w hs).mono ?_
  rintro e w' ⟨hB, ⟨i', k', L', T', a, cap, hb', _, rfl, hh, _⟩ | ⟨i', k', L', T', hb', hn, _⟩ | ⟨_, rfl⟩⟩
  · exact absurd hb' (hno _ _ _ _)
  · exact absurd hb' (hno _ _ _ _)
  · exact ⟨rfl, hB⟩

theorem of_bad (s : ByteArray) (w : World) (hs : s.size ≤ 140737488355328) {i k : Int} {L T : List Int} (hb : Begins s i k L T) (hc : checkE i k L T.length ≠ 0) :
    Calls Try.prog 14 #[.string s] w fun e w' => e = .returned (.tuple #[zeroO, .int .i64 0, .int .i64 (checkE i k L T.length)]) ∧ Below w.heap.size w w' := by
  refine (objectOf_any s w hs).mono ?_
  rintro e w' ⟨hB, ⟨i', k', L', T', a, cap, hb', hz, rfl, hh, _⟩ | ⟨i', k', L', T', hb', hn, rfl⟩ | ⟨hno, _⟩⟩
  · obtain ⟨rfl, rfl, rfl, rfl⟩ := begins_unique hb hb'
    exact absurd hz hc
  · obtain ⟨rfl, rfl, rfl, rfl⟩ := begins_unique hb hb'
    exact ⟨rfl, hB⟩
  · exact absurd hb (hno _ _ _ _)

theorem decode_bad (s : ByteArray) (w : World) (hs : s.size ≤ 9223372036854775807) {i k : Int} {L T : List Int} (hb : Begins s i k L T) (hc : checkE i k L T.length ≠ 0) :
    Calls Try.prog 11 #[.string s] w fun e w' => e = .returned (.tuple #[zeroO, .int .i64 0, .int .i64 (checkE i k L T.length)]) ∧ Below w.heap.size w w' := by
  refine (decode_any s w hs).mono ?_
  rintro e w' ⟨hB, ⟨i', k', L', T', a, cap, hb', hz, rfl, hh, _⟩ | ⟨i', k', L', T', hb', hn, rfl⟩ | ⟨hno, _⟩⟩
  · obtain ⟨rfl, rfl, rfl, rfl⟩ := begins_unique hb hb'
    exact absurd hz hc
  · obtain ⟨rfl, rfl, rfl, rfl⟩ := begins_unique hb hb'
    exact ⟨rfl, hB⟩
  · exact absurd hb (hno _ _ _ _)

set_option maxHeartbeats 1000000 in
theorem objectTells_oA (id kind : Int) (a : Option Addr) (c : Nat) (L : List Int) (t s : ByteArray) (w : World)
    (h : Holds w a L) (hs : s.size ≤ 140737488355328) (he : checkE id kind L t.size = 0) (i k : Int) (L' T : List Int) (hbeg : Begins s i k L' T) (hck : checkE i k L' T.length = 0) :
    Calls Try.prog 4 #[.agg #[.int .i64 id, .int .i64 kind, .slice a L.length c, .string t], .string s] w fun e w' => e = .returned (.bool true) ∧ Below w.heap.size w w' := by
  have HE : Hid (checkE id kind L t.size = 0) := he
  have l : L.length ≤ 9223372036854775807 := by have := (checkE_zero he).2.2.1; omega
  clear he
  have HC : Hid (checkE i k L' T.length = 0) := hck
  clear hck
  have hL' := (begins_len hbeg).1
  have HB : Box w id kind a c L t (w.alloc (.cells #[.int .i64 id, .int .i64 kind, .slice a L.length c, .string t] 24)) := ⟨below_alloc _ _, h.below (below_alloc _ _), Cells4.new _ _ _ _ _ _⟩
  go_enter Try.func4, Try.ntmps4
  go_wp2_with fail
  generalize w.alloc (.cells #[.int .i64 id, .int .i64 kind, .slice a L.length c, .string t] 24) = W0 at *
  refine (encode_ok id kind a c L t _ HB.holds HE.out).mono ?_
  rintro e w1 ⟨rfl, hb⟩
  have H1 := HB.step hb
  clear hb HB
  generalize hEE : strOfNums (encNums id kind L t.size) ++ t = EE
  have HEE : Hid (strOfNums (encNums id kind L t.size) ++ t = EE) := hEE
  clear hEE
  go_wp2_with fail
  refine (decode_begins s _ (by omega) hbeg HC.out).mono ?_
  rintro e w2 ⟨ax, cx, rfl, hhx, hb⟩
  have hhX := hhx.below (below_alloc w2 (.cells #[.int .i64 i, .int .i64 k, .slice ax L'.length cx, .string (strOfNums T)] 24))
  have CX := Cells4.new w2 (.int .i64 i) (.int .i64 k) (.slice ax L'.length cx) (.string (strOfNums T)) 24
  have H2 := (H1.step hb).step (below_alloc w2 (.cells #[.int .i64 i, .int .i64 k, .slice ax L'.length cx, .string (strOfNums T)] 24))
  clear hb H1 hhx
  obtain ⟨⟨q0, q1, q2, q3⟩, _⟩ := H2.four
  go_wp2_with fail
  generalize w2.alloc (.cells #[.int .i64 i, .int .i64 k, .slice ax L'.length cx, .string (strOfNums T)] 24) = W2 at *
  generalize w2.heap.size = PX at *
  refine (checkObject_any id kind a c L t _ H2.holds l).mono ?_
  rintro e w3 ⟨rfl, hb⟩
  have H3 := H2.step hb
  have CX3 := CX.below hb CX.lt
  have hhX3 := hhX.below hb
  clear hb H2 CX q0 q1 q2 q3 hhX
  obtain ⟨⟨q0, q1, q2, q3⟩, _⟩ := H3.four
  rw [HE.out]
  go_wp2_with fail
  refine (objectBytes_any id kind a c L t _ H3.holds HE.out).mono ?_
  rintro e w4 ⟨rfl, hb⟩
  rw [HEE.out]
  have H4 := H3.step hb
  have CX4 := CX3.below hb CX3.lt
  have hhX4 := hhX3.below hb
  clear hb H3 CX3 q0 q1 q2 q3 hhX3
  go_wp2_with fail
  refine (of_begins s _ hs hbeg HC.out).mono ?_
  rintro e w5 ⟨ay, cy, rfl, hhy, hb⟩
  have hhY := hhy.below (below_alloc w5 (.cells #[.int .i64 i, .int .i64 k, .slice ay L'.length cy, .string (strOfNums T)] 24))
  have CY := Cells4.new w5 (.int .i64 i) (.int .i64 k) (.slice ay L'.length cy) (.string (strOfNums T)) 24
  have hb' := hb.trans ((below_alloc w5 (.cells #[.int .i64 i, .int .i64 k, .slice ay L'.length cy, .string (strOfNums T)] 24)).mono hb.size)
  have hhX5 := hhX4.below hb'
  clear hhy hhX4
  have H5 := H4.step hb'
  have CX5 := CX4.below hb' CX4.lt
  clear hb hb' H4 CX4
  go_wp2_with fail
  generalize w5.alloc (.cells #[.int .i64 i, .int .i64 k, .slice ay L'.length cy, .string (strOfNums T)] 24) = W5 at *
  generalize w5.heap.size = PY at *
  refine (objectBegun_any _).mono ?_
  rintro e w6 ⟨rfl, hb⟩
  have H6 := H5.step hb
  have CX6 := CX5.below hb CX5.lt
  have CY6 := CY.below hb CY.lt
  have hhX6 := hhX5.below hb
  have hhY6 := hhY.below hb
  clear hb H5 CX5 CY hhX5 hhY
  obtain ⟨⟨q0, q1, q2, q3⟩, _⟩ := H6.four
  go_wp2_with fail
  refine (check_any id kind a c L t _ H6.holds l).mono ?_
  rintro e w7 ⟨rfl, hb⟩
  rw [HE.out]
  have H7 := H6.step hb
  have CX7 := CX6.below hb CX6.lt
  have CY7 := CY6.below hb CY6.lt
  have hhX7 := hhX6.below hb
  have hhY7 := hhY6.below hb
  clear hb H6 CX6 CY6 q0 q1 q2 q3 hhX6 hhY6
  obtain ⟨x0, x1, x2, x3, _, _, _, _, _⟩ := CX7
  obtain ⟨y0, y1, y2, y3, _, _, _, _, _⟩ := CY7
  go_wp2_with fail
  refine (sameObject_any i k ax cx L' (strOfNums T) i k ay cy L' (strOfNums T) _ hhX7 hhY7 (by omega)).mono ?_
  rintro e w8 ⟨rfl, hb⟩
  rw [sameO_refl]
  have HB8 := H7.below.trans (hb.mono H7.below.size)
  go_wp2
  go_ret
  exact ⟨rfl, HB8⟩

set_option maxHeartbeats 1000000 in
theorem objectTells_oB (id kind : Int) (a : Option Addr) (c : Nat) (L : List Int) (t s : ByteArray) (w : World)
    (h : Holds w a L) (hs : s.size ≤ 140737488355328) (he : checkE id kind L t.size = 0) (i k : Int) (L' T : List Int) (hbeg : Begins s i k L' T) (hck : checkE i k L' T.length ≠ 0) :
    Calls Try.prog 4 #[.agg #[.int .i64 id, .int .i64 kind, .slice a L.length c, .string t], .string s] w fun e w' => e = .returned (.bool true) ∧ Below w.heap.size w w' := by
  have HE : Hid (checkE id kind L t.size = 0) := he
  have l : L.length ≤ 9223372036854775807 := by have := (checkE_zero he).2.2.1; omega
  clear he
  have HC : Hid (checkE i k L' T.length ≠ 0) := hck
  clear hck
  have hL' := (begins_len hbeg).1
  have HB : Box w id kind a c L t (w.alloc (.cells #[.int .i64 id, .int .i64 kind, .slice a L.length c, .string t] 24)) := ⟨below_alloc _ _, h.below (below_alloc _ _), Cells4.new _ _ _ _ _ _⟩
  go_enter Try.func4, Try.ntmps4
  go_wp2_with fail
  generalize w.alloc (.cells #[.int .i64 id, .int .i64 kind, .slice a L.length c, .string t] 24) = W0 at *
  refine (encode_ok id kind a c L t _ HB.holds HE.out).mono ?_
  rintro e w1 ⟨rfl, hb⟩
  have H1 := HB.step hb
  clear hb HB
  generalize hEE : strOfNums (encNums id kind L t.size) ++ t = EE
  have HEE : Hid (strOfNums (encNums id kind L t.size) ++ t = EE) := hEE
  clear hEE
  go_wp2_with fail
  refine (decode_bad s _ (by omega) hbeg HC.out).mono ?_
  rintro e w2 ⟨rfl, hb⟩
  have CX := Cells4.new w2 (.int .i64 0) (.int .i64 0) (.slice none 0 0) (.string { data := #[] }) 24
  have H2 := (H1.step hb).step (below_alloc w2 (.cells #[.int .i64 0, .int .i64 0, .slice none 0 0, .string { data := #[] }] 24))
  clear hb H1
  obtain ⟨⟨q0, q1, q2, q3⟩, _⟩ := H2.four
  go_wp2_with fail
  generalize w2.alloc (.cells #[.int .i64 0, .int .i64 0, .slice none 0 0, .string { data := #[] }] 24) = W2 at *
  generalize w2.heap.size = PX at *
  refine (checkObject_any id kind a c L t _ H2.holds l).mono ?_
  rintro e w3 ⟨rfl, hb⟩
  have H3 := H2.step hb
  have CX3 := CX.below hb CX.lt
  clear hb H2 CX q0 q1 q2 q3
  obtain ⟨⟨q0, q1, q2, q3⟩, _⟩ := H3.four
  rw [HE.out]
  go_wp2_with fail
  refine (objectBytes_any id kind a c L t _ H3.holds HE.out).mono ?_
  rintro e w4 ⟨rfl, hb⟩
  rw [HEE.out]
  have H4 := H3.step hb
  have CX4 := CX3.below hb CX3.lt
  clear hb H3 CX3 q0 q1 q2 q3
  go_wp2_with fail
  refine (of_bad s _ hs hbeg HC.out).mono ?_
  rintro e w5 ⟨rfl, hb⟩
  have CY := Cells4.new w5 (.int .i64 0) (.int .i64 0) (.slice none 0 0) (.string { data := #[] }) 24
  have hb' := hb.trans ((below_alloc w5 (.cells #[.int .i64 0, .int .i64 0, .slice none 0 0, .string { data := #[] }] 24)).mono hb.size)
  have H5 := H4.step hb'
  have CX5 := CX4.below hb' CX4.lt
  clear hb hb' H4 CX4
  go_wp2_with fail
  generalize w5.alloc (.cells #[.int .i64 0, .int .i64 0, .slice none 0 0, .string { data := #[] }] 24) = W5 at *
  generalize w5.heap.size = PY at *
  refine (objectBegun_any _).mono ?_
  rintro e w6 ⟨rfl, hb⟩
  have H6 := H5.step hb
  have CX6 := CX5.below hb CX5.lt
  have CY6 := CY.below hb CY.lt
  clear hb H5 CX5 CY
  obtain ⟨⟨q0, q1, q2, q3⟩, _⟩ := H6.four
  go_wp2_with fail
  refine (check_any id kind a c L t _ H6.holds l).mono ?_
  rintro e w7 ⟨rfl, hb⟩
  rw [HE.out]
  have H7 := H6.step hb
  have CX7 := CX6.below hb CX6.lt
  have CY7 := CY6.below hb CY6.lt
  clear hb H6 CX6 CY6 q0 q1 q2 q3
  obtain ⟨x0, x1, x2, x3, _, _, _, _, _⟩ := CX7
  obtain ⟨y0, y1, y2, y3, _, _, _, _, _⟩ := CY7
  go_wp2_with fail
  refine (sameObject_any 0 0 none 0 [] { data := #[] } 0 0 none 0 [] { data := #[] } _ (fun i hi => by simp at hi) (fun i hi => by simp at hi) (by simp)).mono ?_
  rintro e w8 ⟨rfl, hb⟩
  rw [sameO_refl]
  have HB8 := H7.below.trans (hb.mono H7.below.size)
  go_wp2
  go_ret
  exact ⟨rfl, HB8⟩

set_option maxHeartbeats 1000000 in
theorem objectTells_oC (id kind : Int) (a : Option Addr) (c : Nat) (L : List Int) (t s : ByteArray) (w : World)
    (h : Holds w a L) (hs : s.size ≤ 140737488355328) (he : checkE id kind L t.size = 0) (hno : ∀ i k L T, ¬ Begins s i k L T) :
    Calls Try.prog 4 #[.agg #[.int .i64 id, .int .i64 kind, .slice a L.length c, .string t], .string s] w fun e w' => e = .returned (.bool true) ∧ Below w.heap.size w w' := by
  have HE : Hid (checkE id kind L t.size = 0) := he
  have l : L.length ≤ 9223372036854775807 := by have := (checkE_zero he).2.2.1; omega
  clear he
  have HNO : Hid (∀ i k L T, ¬ Begins s i k L T) := hno
  clear hno
  have HB : Box w id kind a c L t (w.alloc (.cells #[.int .i64 id, .int .i64 kind, .slice a L.length c, .string t] 24)) := ⟨below_alloc _ _, h.below (below_alloc _ _), Cells4.new _ _ _ _ _ _⟩
  go_enter Try.func4, Try.ntmps4
  go_wp2_with fail
  generalize w.alloc (.cells #[.int .i64 id, .int .i64 kind, .slice a L.length c, .string t] 24) = W0 at *
  refine (encode_ok id kind a c L t _ HB.holds HE.out).mono ?_
  rintro e w1 ⟨rfl, hb⟩
  have H1 := HB.step hb
  clear hb HB
  generalize hEE : strOfNums (encNums id kind L t.size) ++ t = EE
  have HEE : Hid (strOfNums (encNums id kind L t.size) ++ t = EE) := hEE
  clear hEE
  go_wp2_with fail
  refine (decode_none s _ (by omega) HNO.out).mono ?_
  rintro e w2 ⟨rfl, hb⟩
  have CX := Cells4.new w2 (.int .i64 0) (.int .i64 0) (.slice none 0 0) (.string { data := #[] }) 24
  have H2 := (H1.step hb).step (below_alloc w2 (.cells #[.int .i64 0, .int .i64 0, .slice none 0 0, .string { data := #[] }] 24))
  clear hb H1
  obtain ⟨⟨q0, q1, q2, q3⟩, _⟩ := H2.four
  go_wp2_with fail
  generalize w2.alloc (.cells #[.int .i64 0, .int .i64 0, .slice none 0 0, .string { data := #[] }] 24) = W2 at *
  generalize w2.heap.size = PX at *
  refine (checkObject_any id kind a c L t _ H2.holds l).mono ?_
  rintro e w3 ⟨rfl, hb⟩
  have H3 := H2.step hb
  have CX3 := CX.below hb CX.lt
  clear hb H2 CX q0 q1 q2 q3
  obtain ⟨⟨q0, q1, q2, q3⟩, _⟩ := H3.four
  rw [HE.out]
  go_wp2_with fail
  refine (objectBytes_any id kind a c L t _ H3.holds HE.out).mono ?_
  rintro e w4 ⟨rfl, hb⟩
  rw [HEE.out]
  have H4 := H3.step hb
  have CX4 := CX3.below hb CX3.lt
  clear hb H3 CX3 q0 q1 q2 q3
  go_wp2_with fail
  refine (of_none s _ hs HNO.out).mono ?_
  rintro e w5 ⟨rfl, hb⟩
  have CY := Cells4.new w5 (.int .i64 0) (.int .i64 0) (.slice none 0 0) (.string { data := #[] }) 24
  have hb' := hb.trans ((below_alloc w5 (.cells #[.int .i64 0, .int .i64 0, .slice none 0 0, .string { data := #[] }] 24)).mono hb.size)
  have H5 := H4.step hb'
  have CX5 := CX4.below hb' CX4.lt
  clear hb hb' H4 CX4
  go_wp2_with fail
  generalize w5.alloc (.cells #[.int .i64 0, .int .i64 0, .slice none 0 0, .string { data := #[] }] 24) = W5 at *
  generalize w5.heap.size = PY at *
  refine (objectBegun_any _).mono ?_
  rintro e w6 ⟨rfl, hb⟩
  have H6 := H5.step hb
  have CX6 := CX5.below hb CX5.lt
  have CY6 := CY.below hb CY.lt
  clear hb H5 CX5 CY
  obtain ⟨⟨q0, q1, q2, q3⟩, _⟩ := H6.four
  go_wp2_with fail
  refine (check_any id kind a c L t _ H6.holds l).mono ?_
  rintro e w7 ⟨rfl, hb⟩
  rw [HE.out]
  have H7 := H6.step hb
  have CX7 := CX6.below hb CX6.lt
  have CY7 := CY6.below hb CY6.lt
  clear hb H6 CX6 CY6 q0 q1 q2 q3
  obtain ⟨x0, x1, x2, x3, _, _, _, _, _⟩ := CX7
  obtain ⟨y0, y1, y2, y3, _, _, _, _, _⟩ := CY7
  go_wp2_with fail
  refine (sameObject_any 0 0 none 0 [] { data := #[] } 0 0 none 0 [] { data := #[] } _ (fun i hi => by simp at hi) (fun i hi => by simp at hi) (by simp)).mono ?_
  rintro e w8 ⟨rfl, hb⟩
  rw [sameO_refl]
  have HB8 := H7.below.trans (hb.mono H7.below.size)
  go_wp2
  go_ret
  exact ⟨rfl, HB8⟩

set_option maxHeartbeats 1000000 in
theorem objectTells_eA (id kind : Int) (a : Option Addr) (c : Nat) (L : List Int) (t s : ByteArray) (w : World)
    (h : Holds w a L) (hs : s.size ≤ 140737488355328) (l : L.length ≤ 9223372036854775807) (he : checkE id kind L t.size ≠ 0) (i k : Int) (L' T : List Int) (hbeg : Begins s i k L' T) (hck : checkE i k L' T.length = 0) :
    Calls Try.prog 4 #[.agg #[.int .i64 id, .int .i64 kind, .slice a L.length c, .string t], .string s] w fun e w' => e = .returned (.bool true) ∧ Below w.heap.size w w' := by
  have HE : Hid (checkE id kind L t.size ≠ 0) := he
  have hbf : (checkE id kind L t.size == 0) = false := by simpa using he
  clear he
  have HC : Hid (checkE i k L' T.length = 0) := hck
  clear hck
  have hL' := (begins_len hbeg).1
  have HB : Box w id kind a c L t (w.alloc (.cells #[.int .i64 id, .int .i64 kind, .slice a L.length c, .string t] 24)) := ⟨below_alloc _ _, h.below (below_alloc _ _), Cells4.new _ _ _ _ _ _⟩
  go_enter Try.func4, Try.ntmps4
  go_wp2_with fail
  generalize w.alloc (.cells #[.int .i64 id, .int .i64 kind, .slice a L.length c, .string t] 24) = W0 at *
  refine (encode_err id kind a c L t _ HB.holds l HE.out).mono ?_
  rintro e w1 ⟨rfl, hb⟩
  have H1 := HB.step hb
  clear hb HB
  go_wp2_with fail
  refine (decode_begins s _ (by omega) hbeg HC.out).mono ?_
  rintro e w2 ⟨ax, cx, rfl, hhx, hb⟩
  have hhX := hhx.below (below_alloc w2 (.cells #[.int .i64 i, .int .i64 k, .slice ax L'.length cx, .string (strOfNums T)] 24))
  have CX := Cells4.new w2 (.int .i64 i) (.int .i64 k) (.slice ax L'.length cx) (.string (strOfNums T)) 24
  have H2 := (H1.step hb).step (below_alloc w2 (.cells #[.int .i64 i, .int .i64 k, .slice ax L'.length cx, .string (strOfNums T)] 24))
  clear hb H1 hhx
  obtain ⟨⟨q0, q1, q2, q3⟩, _⟩ := H2.four
  go_wp2_with fail
  generalize w2.alloc (.cells #[.int .i64 i, .int .i64 k, .slice ax L'.length cx, .string (strOfNums T)] 24) = W2 at *
  generalize w2.heap.size = PX at *
  refine (checkObject_any id kind a c L t _ H2.holds l).mono ?_
  rintro e w3 ⟨rfl, hb⟩
  have H3 := H2.step hb
  have CX3 := CX.below hb CX.lt
  have hhX3 := hhX.below hb
  clear hb H2 CX q0 q1 q2 q3 hhX
  obtain ⟨⟨q0, q1, q2, q3⟩, _⟩ := H3.four
  have H4 := H3
  have CX4 := CX3
  have hhX4 := hhX3
  clear H3 CX3 hhX3
  go_wp2_with fail
  refine (of_begins s _ hs hbeg HC.out).mono ?_
  rintro e w5 ⟨ay, cy, rfl, hhy, hb⟩
  have hhY := hhy.below (below_alloc w5 (.cells #[.int .i64 i, .int .i64 k, .slice ay L'.length cy, .string (strOfNums T)] 24))
  have CY := Cells4.new w5 (.int .i64 i) (.int .i64 k) (.slice ay L'.length cy) (.string (strOfNums T)) 24
  have hb' := hb.trans ((below_alloc w5 (.cells #[.int .i64 i, .int .i64 k, .slice ay L'.length cy, .string (strOfNums T)] 24)).mono hb.size)
  have hhX5 := hhX4.below hb'
  clear hhy hhX4
  have H5 := H4.step hb'
  have CX5 := CX4.below hb' CX4.lt
  clear hb hb' H4 CX4
  go_wp2_with fail
  generalize w5.alloc (.cells #[.int .i64 i, .int .i64 k, .slice ay L'.length cy, .string (strOfNums T)] 24) = W5 at *
  generalize w5.heap.size = PY at *
  refine (objectBegun_any _).mono ?_
  rintro e w6 ⟨rfl, hb⟩
  have H6 := H5.step hb
  have CX6 := CX5.below hb CX5.lt
  have CY6 := CY.below hb CY.lt
  have hhX6 := hhX5.below hb
  have hhY6 := hhY.below hb
  clear hb H5 CX5 CY hhX5 hhY
  obtain ⟨⟨q0, q1, q2, q3⟩, _⟩ := H6.four
  go_wp2_with fail
  refine (check_any id kind a c L t _ H6.holds l).mono ?_
  rintro e w7 ⟨rfl, hb⟩
  have H7 := H6.step hb
  have CX7 := CX6.below hb CX6.lt
  have CY7 := CY6.below hb CY6.lt
  have hhX7 := hhX6.below hb
  have hhY7 := hhY6.below hb
  clear hb H6 CX6 CY6 q0 q1 q2 q3 hhX6 hhY6
  obtain ⟨x0, x1, x2, x3, _, _, _, _, _⟩ := CX7
  obtain ⟨y0, y1, y2, y3, _, _, _, _, _⟩ := CY7
  go_wp2_with fail
  refine (sameObject_any i k ax cx L' (strOfNums T) i k ay cy L' (strOfNums T) _ hhX7 hhY7 (by omega)).mono ?_
  rintro e w8 ⟨rfl, hb⟩
  rw [sameO_refl]
  have HB8 := H7.below.trans (hb.mono H7.below.size)
  go_wp2
  go_ret
  exact ⟨rfl, HB8⟩

set_option maxHeartbeats 1000000 in
theorem objectTells_eB (id kind : Int) (a : Option Addr) (c : Nat) (L : List Int) (t s : ByteArray) (w : World)
    (h : Holds w a L) (hs : s.size ≤ 140737488355328) (l : L.length ≤ 9223372036854775807) (he : checkE id kind L t.size ≠ 0) (i k : Int) (L' T : List Int) (hbeg : Begins s i k L' T) (hck : checkE i k L' T.length ≠ 0) :
    Calls Try.prog 4 #[.agg #[.int .i64 id, .int .i64 kind, .slice a L.length c, .string t], .string s] w fun e w' => e = .returned (.bool true) ∧ Below w.heap.size w w' := by
  have HE : Hid (checkE id kind L t.size ≠ 0) := he
  have hbf : (checkE id kind L t.size == 0) = false := by simpa using he
  clear he
  have HC : Hid (checkE i k L' T.length ≠ 0) := hck
  clear hck
  have hL' := (begins_len hbeg).1
  have HB : Box w id kind a c L t (w.alloc (.cells #[.int .i64 id, .int .i64 kind, .slice a L.length c, .string t] 24)) := ⟨below_alloc _ _, h.below (below_alloc _ _), Cells4.new _ _ _ _ _ _⟩
  go_enter Try.func4, Try.ntmps4
  go_wp2_with fail
  generalize w.alloc (.cells #[.int .i64 id, .int .i64 kind, .slice a L.length c, .string t] 24) = W0 at *
  refine (encode_err id kind a c L t _ HB.holds l HE.out).mono ?_
  rintro e w1 ⟨rfl, hb⟩
  have H1 := HB.step hb
  clear hb HB
  go_wp2_with fail
  refine (decode_bad s _ (by omega) hbeg HC.out).mono ?_
  rintro e w2 ⟨rfl, hb⟩
  have CX := Cells4.new w2 (.int .i64 0) (.int .i64 0) (.slice none 0 0) (.string { data := #[] }) 24
  have H2 := (H1.step hb).step (below_alloc w2 (.cells #[.int .i64 0, .int .i64 0, .slice none 0 0, .string { data := #[] }] 24))
  clear hb H1
  obtain ⟨⟨q0, q1, q2, q3⟩, _⟩ := H2.four
  go_wp2_with fail
  generalize w2.alloc (.cells #[.int .i64 0, .int .i64 0, .slice none 0 0, .string { data := #[] }] 24) = W2 at *
  generalize w2.heap.size = PX at *
  refine (checkObject_any id kind a c L t _ H2.holds l).mono ?_
  rintro e w3 ⟨rfl, hb⟩
  have H3 := H2.step hb
  have CX3 := CX.below hb CX.lt
  clear hb H2 CX q0 q1 q2 q3
  obtain ⟨⟨q0, q1, q2, q3⟩, _⟩ := H3.four
  have H4 := H3
  have CX4 := CX3
  clear H3 CX3
  go_wp2_with fail
  refine (of_bad s _ hs hbeg HC.out).mono ?_
  rintro e w5 ⟨rfl, hb⟩
  have CY := Cells4.new w5 (.int .i64 0) (.int .i64 0) (.slice none 0 0) (.string { data := #[] }) 24
  have hb' := hb.trans ((below_alloc w5 (.cells #[.int .i64 0, .int .i64 0, .slice none 0 0, .string { data := #[] }] 24)).mono hb.size)
  have H5 := H4.step hb'
  have CX5 := CX4.below hb' CX4.lt
  clear hb hb' H4 CX4
  go_wp2_with fail
  generalize w5.alloc (.cells #[.int .i64 0, .int .i64 0, .slice none 0 0, .string { data := #[] }] 24) = W5 at *
  generalize w5.heap.size = PY at *
  refine (objectBegun_any _).mono ?_
  rintro e w6 ⟨rfl, hb⟩
  have H6 := H5.step hb
  have CX6 := CX5.below hb CX5.lt
  have CY6 := CY.below hb CY.lt
  clear hb H5 CX5 CY
  obtain ⟨⟨q0, q1, q2, q3⟩, _⟩ := H6.four
  go_wp2_with fail
  refine (check_any id kind a c L t _ H6.holds l).mono ?_
  rintro e w7 ⟨rfl, hb⟩
  have H7 := H6.step hb
  have CX7 := CX6.below hb CX6.lt
  have CY7 := CY6.below hb CY6.lt
  clear hb H6 CX6 CY6 q0 q1 q2 q3
  obtain ⟨x0, x1, x2, x3, _, _, _, _, _⟩ := CX7
  obtain ⟨y0, y1, y2, y3, _, _, _, _, _⟩ := CY7
  go_wp2_with fail
  refine (sameObject_any 0 0 none 0 [] { data := #[] } 0 0 none 0 [] { data := #[] } _ (fun i hi => by simp at hi) (fun i hi => by simp at hi) (by simp)).mono ?_
  rintro e w8 ⟨rfl, hb⟩
  rw [sameO_refl]
  have HB8 := H7.below.trans (hb.mono H7.below.size)
  go_wp2
  go_ret
  exact ⟨rfl, HB8⟩

set_option maxHeartbeats 1000000 in
theorem objectTells_eC (id kind : Int) (a : Option Addr) (c : Nat) (L : List Int) (t s : ByteArray) (w : World)
    (h : Holds w a L) (hs : s.size ≤ 140737488355328) (l : L.length ≤ 9223372036854775807) (he : checkE id kind L t.size ≠ 0) (hno : ∀ i k L T, ¬ Begins s i k L T) :
    Calls Try.prog 4 #[.agg #[.int .i64 id, .int .i64 kind, .slice a L.length c, .string t], .string s] w fun e w' => e = .returned (.bool true) ∧ Below w.heap.size w w' := by
  have HE : Hid (checkE id kind L t.size ≠ 0) := he
  have hbf : (checkE id kind L t.size == 0) = false := by simpa using he
  clear he
  have HNO : Hid (∀ i k L T, ¬ Begins s i k L T) := hno
  clear hno
  have HB : Box w id kind a c L t (w.alloc (.cells #[.int .i64 id, .int .i64 kind, .slice a L.length c, .string t] 24)) := ⟨below_alloc _ _, h.below (below_alloc _ _), Cells4.new _ _ _ _ _ _⟩
  go_enter Try.func4, Try.ntmps4
  go_wp2_with fail
  generalize w.alloc (.cells #[.int .i64 id, .int .i64 kind, .slice a L.length c, .string t] 24) = W0 at *
  refine (encode_err id kind a c L t _ HB.holds l HE.out).mono ?_
  rintro e w1 ⟨rfl, hb⟩
  have H1 := HB.step hb
  clear hb HB
  go_wp2_with fail
  refine (decode_none s _ (by omega) HNO.out).mono ?_
  rintro e w2 ⟨rfl, hb⟩
  have CX := Cells4.new w2 (.int .i64 0) (.int .i64 0) (.slice none 0 0) (.string { data := #[] }) 24
  have H2 := (H1.step hb).step (below_alloc w2 (.cells #[.int .i64 0, .int .i64 0, .slice none 0 0, .string { data := #[] }] 24))
  clear hb H1
  obtain ⟨⟨q0, q1, q2, q3⟩, _⟩ := H2.four
  go_wp2_with fail
  generalize w2.alloc (.cells #[.int .i64 0, .int .i64 0, .slice none 0 0, .string { data := #[] }] 24) = W2 at *
  generalize w2.heap.size = PX at *
  refine (checkObject_any id kind a c L t _ H2.holds l).mono ?_
  rintro e w3 ⟨rfl, hb⟩
  have H3 := H2.step hb
  have CX3 := CX.below hb CX.lt
  clear hb H2 CX q0 q1 q2 q3
  obtain ⟨⟨q0, q1, q2, q3⟩, _⟩ := H3.four
  have H4 := H3
  have CX4 := CX3
  clear H3 CX3
  go_wp2_with fail
  refine (of_none s _ hs HNO.out).mono ?_
  rintro e w5 ⟨rfl, hb⟩
  have CY := Cells4.new w5 (.int .i64 0) (.int .i64 0) (.slice none 0 0) (.string { data := #[] }) 24
  have hb' := hb.trans ((below_alloc w5 (.cells #[.int .i64 0, .int .i64 0, .slice none 0 0, .string { data := #[] }] 24)).mono hb.size)
  have H5 := H4.step hb'
  have CX5 := CX4.below hb' CX4.lt
  clear hb hb' H4 CX4
  go_wp2_with fail
  generalize w5.alloc (.cells #[.int .i64 0, .int .i64 0, .slice none 0 0, .string { data := #[] }] 24) = W5 at *
  generalize w5.heap.size = PY at *
  refine (objectBegun_any _).mono ?_
  rintro e w6 ⟨rfl, hb⟩
  have H6 := H5.step hb
  have CX6 := CX5.below hb CX5.lt
  have CY6 := CY.below hb CY.lt
  clear hb H5 CX5 CY
  obtain ⟨⟨q0, q1, q2, q3⟩, _⟩ := H6.four
  go_wp2_with fail
  refine (check_any id kind a c L t _ H6.holds l).mono ?_
  rintro e w7 ⟨rfl, hb⟩
  have H7 := H6.step hb
  have CX7 := CX6.below hb CX6.lt
  have CY7 := CY6.below hb CY6.lt
  clear hb H6 CX6 CY6 q0 q1 q2 q3
  obtain ⟨x0, x1, x2, x3, _, _, _, _, _⟩ := CX7
  obtain ⟨y0, y1, y2, y3, _, _, _, _, _⟩ := CY7
  go_wp2_with fail
  refine (sameObject_any 0 0 none 0 [] { data := #[] } 0 0 none 0 [] { data := #[] } _ (fun i hi => by simp at hi) (fun i hi => by simp at hi) (by simp)).mono ?_
  rintro e w8 ⟨rfl, hb⟩
  rw [sameO_refl]
  have HB8 := H7.below.trans (hb.mono H7.below.size)
  go_wp2
  go_ret
  exact ⟨rfl, HB8⟩

end Go.Proofs.Ytdclffgbmcecdaa
