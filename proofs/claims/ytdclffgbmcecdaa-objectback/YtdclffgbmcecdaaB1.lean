import Derived.Test.YtdclffgbmcecdaaA14
namespace Go.Proofs.Ytdclffgbmcecdaa
open Go.RowKit

theorem begins_slice {s : ByteArray} {i k : Int} {L T : List Int} (h : Begins s i k L T) (hc : checkE i k L T.length = 0) :
    strOfNums (encNums i k L (strOfNums T).size) ++ strOfNums T = s.extract 0 (4 + L.length + T.length) := by
  obtain ⟨rest, e⟩ := h
  have hT : ∀ x ∈ T, 0 ≤ x ∧ x ≤ 255 := fun x hx => nums_bd s x (by rw [e]; simp [encN, hx])
  have hc' : checkE i k L (strOfNums T).size = 0 := by rw [strOfNums_size]; exact hc
  refine nums_inj ?_
  rw [enc_nums hc', nums_strOf hT, nums_extract, e]
  have hl : (encN i k L T).length = 4 + L.length + T.length := by simp [encN]; omega
  rw [← hl, List.take_left]

set_option maxHeartbeats 800000 in
theorem objectBack_err (id kind : Int) (a : Option Addr) (c : Nat) (L : List Int) (t s : ByteArray) (w : World)
    (h : Holds w a L) (l : L.length ≤ 9223372036854775807) (hs : s.size ≤ 9223372036854775807) (he : checkE id kind L t.size ≠ 0) :
    Calls Try.prog 5 #[.agg #[.int .i64 id, .int .i64 kind, .slice a L.length c, .string t], .string s] w fun e w' => e = .returned (.bool true) ∧ Below w.heap.size w w' := by
  have he' : (checkE id kind L t.size == 0) = false := by simpa using he
  go_enter Try.func5, Try.ntmps5
  go_wp2_with fail
  refine (objectBegun_any _).mono ?_
  rintro e w1 ⟨rfl, hb1⟩
  obtain ⟨g0, g1, g2, g3, hlt⟩ := boxed hb1
  have hB1 := (below_alloc _ _).trans (hb1.mono (by simp))
  have h1 := h.below hB1
  clear hb1
  go_wp2_with fail
  refine (encode_err id kind a c L t _ h1 l he).mono ?_
  rintro e w2 ⟨rfl, hb2⟩
  have hBx := hB1.trans (hb2.mono hB1.size)
  clear g0 g1 g2 g3 hb2 hB1 h1 hlt
  go_wp2_with fail
  refine (decode_any s _ hs).mono ?_
  rintro e w3 ⟨hB3, ⟨i, k, L', T, a', cap, hbeg, hck, rfl, hh, _⟩ | ⟨i, k, L', T, hbeg, hck, rfl⟩ | ⟨hno, rfl⟩⟩
  · obtain ⟨hL', hT⟩ := begins_len hbeg
    have hB := hBx.trans (hB3.mono hBx.size)
    have hh4 := hh.below (below_alloc w3 (.cells #[.int .i64 i, .int .i64 k, .slice a' L'.length cap, .string (strOfNums T)] 24))
    have hck' : checkE i k L' (strOfNums T).size = 0 := by rw [strOfNums_size]; exact hck
    have HC : Hid (checkE i k L' T.length = 0) := hck
    clear hck hB3
    go_wp2_with fail
    refine (encode_ok i k a' cap L' (strOfNums T) _ hh4 hck').mono ?_
    rintro e w4 ⟨rfl, hB4⟩
    have hBB := (hB.alloc hB.size _).trans (hB4.mono (by have := hB.size; simp; omega))
    clear hB4 hB hh4 hh hBx hck'
    have hfit := (begins_sizes hbeg).1
    have hlen : ((4 : Int) + L'.length + T.length) ≤ s.size := by omega
    have hslice := begins_slice hbeg HC.out
    generalize strOfNums (encNums i k L' (strOfNums T).size) ++ strOfNums T = tt at *
    go_wp2
    go_ret
    exact ⟨rfl, hBB⟩
  · have hB := hBx.trans (hB3.mono hBx.size)
    have hck' : (checkE i k L' T.length != 0) = true := by simpa using hck
    clear hB3 hBx
    go_wp2
    go_ret
    exact ⟨rfl, hB.alloc hB.size _⟩
  · have hB := hBx.trans (hB3.mono hBx.size)
    clear hB3 hBx
    go_wp2
    go_ret
    exact ⟨rfl, hB.alloc hB.size _⟩

theorem begins_enc {id kind : Int} {L : List Int} {t : ByteArray} (s : ByteArray) (h : checkE id kind L t.size = 0) : Begins (strOfNums (encNums id kind L t.size) ++ t ++ s) id kind L (nums t) := by
  refine ⟨nums s, ?_⟩
  rw [nums_append, enc_nums h]

set_option maxHeartbeats 800000 in
theorem objectBack_ok (id kind : Int) (a : Option Addr) (c : Nat) (L : List Int) (t s : ByteArray) (w : World)
    (h : Holds w a L) (hs : s.size ≤ 140737488355328) (he : checkE id kind L t.size = 0) :
    Calls Try.prog 5 #[.agg #[.int .i64 id, .int .i64 kind, .slice a L.length c, .string t], .string s] w fun e w' => e = .returned (.bool true) ∧ Below w.heap.size w w' := by
  obtain ⟨_, _, hL4, ht8, _, _⟩ := checkE_zero he
  have hEs : (strOfNums (encNums id kind L t.size) ++ t).size = 4 + L.length + t.size := by rw [← nums_len, enc_nums he]; simp [encN, nums_len]; omega
  have HB : Hid (Begins (strOfNums (encNums id kind L t.size) ++ t ++ s) id kind L (nums t)) := begins_enc s he
  have he2 : checkE id kind L (nums t).length = 0 := by rw [nums_len]; exact he
  have HE : Hid (checkE id kind L (nums t).length = 0) := he2
  have HE1 : Hid (checkE id kind L t.size = 0) := he
  clear he2 he
  go_enter Try.func5, Try.ntmps5
  go_wp2_with fail
  refine (objectBegun_any _).mono ?_
  rintro e w1 ⟨rfl, hb1⟩
  obtain ⟨g0, g1, g2, g3, hlt⟩ := boxed hb1
  have hB1 := (below_alloc _ _).trans (hb1.mono (by simp))
  have h1 := h.below hB1
  clear hb1
  go_wp2_with fail
  refine (encode_ok id kind a c L t _ h1 HE1.out).mono ?_
  rintro e w2 ⟨rfl, hb2⟩
  have hB2 := hB1.trans (hb2.mono hB1.size)
  have h2 := h1.below hb2
  have k0 := (hb2.cell (p := ⟨w.heap.size, 0, none⟩) hlt).trans g0
  have k1 := (hb2.cell (p := ⟨w.heap.size, 1, none⟩) hlt).trans g1
  have k2 := (hb2.cell (p := ⟨w.heap.size, 2, none⟩) hlt).trans g2
  have k3 := (hb2.cell (p := ⟨w.heap.size, 3, none⟩) hlt).trans g3
  have hlt2 := Nat.lt_of_lt_of_le hlt hb2.size
  clear g0 g1 g2 g3 hb2 hB1 h1 hlt
  have HS : Hid ((strOfNums (encNums id kind L t.size) ++ t).size = 4 + L.length + t.size) := hEs
  have hsum : (strOfNums (encNums id kind L t.size) ++ t).size + s.size ≤ 9223372036854775807 := by omega
  have hsE : (strOfNums (encNums id kind L t.size) ++ t).size ≤ 1000 := by omega
  clear hEs
  generalize strOfNums (encNums id kind L t.size) ++ t = E at *
  go_wp2_with fail
  refine (decode_begins _ _ (by simp; omega) HB.out HE.out).mono ?_
  rintro e w5 ⟨a5, cap5, rfl, hh5, hB5⟩
  rw [strOf_nums, nums_len]
  have hB6 := hB2.trans (hB5.mono hB2.size)
  have h6 := h2.below hB5
  have q0 := (hB5.cell (p := ⟨w.heap.size, 0, none⟩) hlt2).trans k0
  have q1 := (hB5.cell (p := ⟨w.heap.size, 1, none⟩) hlt2).trans k1
  have q2 := (hB5.cell (p := ⟨w.heap.size, 2, none⟩) hlt2).trans k2
  have q3 := (hB5.cell (p := ⟨w.heap.size, 3, none⟩) hlt2).trans k3
  have hlt5 := Nat.lt_of_lt_of_le hlt2 hB5.size
  have hn : (((4 + L.length + t.size : Nat) : Int) != (E.size : Int)) = false := by have := HS.out; simp; omega
  have hn' : ((4 : Int) + L.length + t.size != (E.size : Int)) = false := by have := HS.out; simp; omega
  clear k0 k1 k2 k3 hB5 h2 hB2 hlt2
  have hh7 := hh5.below (below_alloc w5 (.cells #[.int .i64 id, .int .i64 kind, .slice a5 L.length cap5, .string t] 24))
  have h7 := h6.below (below_alloc w5 (.cells #[.int .i64 id, .int .i64 kind, .slice a5 L.length cap5, .string t] 24))
  go_wp2_with fail
  refine (sameObject_any id kind a5 cap5 L t id kind a c L t _ hh7 h7 (by omega)).mono ?_
  rintro e w6 ⟨rfl, hB7⟩
  rw [sameO_refl]
  have hBx := (hB6.alloc hB6.size _).trans (hB7.mono (by have := hB6.size; simp; omega))
  clear hB6 hB7 hh7 h7 q0 q1 q2 q3 h6 hh5 hn hn' hsE hsum
  have hs : s.size ≤ 9223372036854775807 := by omega
  go_wp2_with fail
  refine (decode_any s _ hs).mono ?_
  rintro e w3 ⟨hB3, ⟨i, k, L', T, a', cap, hbeg, hck, rfl, hh, _⟩ | ⟨i, k, L', T, hbeg, hck, rfl⟩ | ⟨hno, rfl⟩⟩
  · obtain ⟨hL', hT⟩ := begins_len hbeg
    have hB := hBx.trans (hB3.mono hBx.size)
    have hh4 := hh.below (below_alloc w3 (.cells #[.int .i64 i, .int .i64 k, .slice a' L'.length cap, .string (strOfNums T)] 24))
    have hck' : checkE i k L' (strOfNums T).size = 0 := by rw [strOfNums_size]; exact hck
    have HC : Hid (checkE i k L' T.length = 0) := hck
    clear hck hB3
    go_wp2_with fail
    refine (encode_ok i k a' cap L' (strOfNums T) _ hh4 hck').mono ?_
    rintro e w4 ⟨rfl, hB4⟩
    have hBB := (hB.alloc hB.size _).trans (hB4.mono (by have := hB.size; simp; omega))
    clear hB4 hB hh4 hh hBx hck'
    have hfit := (begins_sizes hbeg).1
    have hlen : ((4 : Int) + L'.length + T.length) ≤ s.size := by omega
    have hslice := begins_slice hbeg HC.out
    generalize strOfNums (encNums i k L' (strOfNums T).size) ++ strOfNums T = tt at *
    go_wp2
    go_ret
    exact ⟨rfl, hBB⟩
  · have hB := hBx.trans (hB3.mono hBx.size)
    have hck' : (checkE i k L' T.length != 0) = true := by simpa using hck
    clear hB3 hBx
    go_wp2
    go_ret
    exact ⟨rfl, hB.alloc hB.size _⟩
  · have hB := hBx.trans (hB3.mono hBx.size)
    clear hB3 hBx
    go_wp2
    go_ret
    exact ⟨rfl, hB.alloc hB.size _⟩
end Go.Proofs.Ytdclffgbmcecdaa
