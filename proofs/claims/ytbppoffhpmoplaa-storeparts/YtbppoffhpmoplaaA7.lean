import Derived.Test.YtbppoffhpmoplaaA6
namespace Go.Proofs.Ytbppoffhpmoplaa
open Go.RowKit

/-- n numbers of a text from k on. -/
def part (s : ByteArray) (k n : Nat) : List Int := ((nums s).drop k).take n
theorem part_len {s : ByteArray} {k n : Nat} (h : k + n ≤ s.size) : (part s k n).length = n := by
  rw [part, List.length_take, List.length_drop, nums_len]; omega
theorem part_zero (s : ByteArray) (k : Nat) : part s k 0 = [] := by rw [part, List.take_zero]
theorem part_succ {s : ByteArray} {k n : Nat} (h : k + n < s.size) : part s k (n + 1) = part s k n ++ [(s[k + n].toNat : Int)] := by
  have h1 : n < ((nums s).drop k).length := by rw [List.length_drop, nums_len]; omega
  have h2 : ((nums s).drop k)[n] = (s[k + n].toNat : Int) := by
    have := nums_at s (k + n) h
    rw [List.getElem_drop]
    exact Option.some.inj ((List.getElem?_eq_getElem _).symm.trans this)
  rw [part, part, List.take_succ_eq_append_getElem h1, h2]
theorem part_bd (s : ByteArray) (k n : Nat) : ∀ x ∈ part s k n, 0 ≤ x ∧ x ≤ 255 := fun x hx => nums_bd s x (List.mem_of_mem_drop (List.mem_of_mem_take hx))

theorem holds_own {w : World} {base g n cap : Nat} {L : List Int} (h : w.ownsRow base 3 1 (.slice (some ⟨g, 0, none⟩) n cap) n (L.map (Value.int .i64))) (hn : L.length = n) : Holds w (some ⟨g, 0, none⟩) L := by
  intro i hi
  refine ⟨g, 0, rfl, ?_, fun j hj => ?_⟩
  · exact (h.lt g rfl).2
  · rw [Nat.zero_add, h.cellAt j (by omega)]
    simp [List.getElem?_eq_getElem hj]

theorem Stays.grownBy {p : Nat} {w w' : World} (h : Stays p none w w') : w.grownBy w' (some p) :=
  ⟨h.os, h.tape, h.output, h.size, fun k hk hr => h.block k hk (fun e => hr (by rw [e])) (by simp)⟩

theorem owns_stays {p base n : Nat} {e : TypeId} {v : Value} {xs : List Value} {w w' : World} (h : w.ownsRow base e 1 v n xs) (hs : Stays p none w w') (hp : p < base) : w'.ownsRow base e 1 v n xs :=
  h.kept hs.grownBy (Or.inr (fun ee => by have := (h.lt p ee).1; omega))

theorem own_shape {w : World} {base n : Nat} {v : Value} {L : List Int} (h : w.ownsRow base 3 1 v n (L.map (Value.int .i64))) (hn : L.length = n) : ∃ a cap, v = .slice a n cap ∧ Holds w a L ∧ ∀ b off, a = some ⟨b, off, none⟩ → base ≤ b := by
  by_cases h0 : 0 < n
  · obtain ⟨g, cap, rfl, hg, _⟩ := h.form h0
    exact ⟨_, cap, rfl, holds_own h hn, fun b off e => by cases e; exact hg⟩
  · have e0 : n = 0 := by omega
    subst e0
    rcases h.2 with ⟨rfl, _⟩ | ⟨g, cap, cur, rfl, hg, _⟩
    · exact ⟨none, 0, rfl, fun i hi => by omega, fun b off e => by cases e⟩
    · exact ⟨_, cap, rfl, fun i hi => by omega, fun b off e => by cases e; exact hg⟩

set_option maxHeartbeats 800000 in
theorem links_any (p k n : Nat) (s : ByteArray) (w : World) (hr : Reader p s k w) (hk : k < s.size) (hs : s.size ≤ 9223372036854775807) (hn : s[k].toNat = n) (hp : p < w.heap.size) :
    Calls Try.prog 36 #[.pointer (some ⟨p, 0, none⟩)] w fun e w' => Stays p none w w' ∧
      ((k + 1 + n ≤ s.size ∧ Reader p s (k + 1 + n) w' ∧ ∃ a cap, e = .returned (.slice a n cap) ∧ Holds w' a (part s (k + 1) n) ∧ ∀ b off, a = some ⟨b, off, none⟩ → w.heap.size ≤ b) ∨ (s.size < k + 1 + n ∧ e = .panicked endedPanic)) := by
  obtain ⟨i0, hi, hz0, hz1, hz2⟩ := info_parts Try.info3
  have hn8 : n < 256 := by have := s[k].toNat_lt; omega
  go_enter Try.func36, Try.ntmps36
  go_wp2_with fail
  refine (number_ok p k s _ hr hk hs).mono ?_
  rintro e w1 ⟨rfl, hr1, hs1⟩
  rw [hn]
  clear hn
  go_wp2_with fail
  go_loopw [3, 6] (fun v i wr => ∃ j : Nat, i = .int .i64 j ∧ j ≤ n ∧ k + 1 + j ≤ s.size ∧ wr.ownsRow w.heap.size 3 1 v j ((part s (k + 1) j).map (Value.int .i64)) ∧ Reader p s (k + 1 + j) wr ∧ Stays p none w wr)
    (fun _ i _ => n - (intOf i).toNat)
  case atStart => exact ⟨0, rfl, Nat.zero_le _, by omega, by rw [part_zero]; exact World.ownsRow_nil _ _ _ _, hr1, hs1⟩
  case round =>
    obtain ⟨j, rfl, hj, hjs, ho, hrr, hss⟩ := hrel
    have hsz := hss.size
    clear hr1 hs1
    by_cases hlt : j < n
    · by_cases hin : k + 1 + j < s.size
      · have hb := (s[k + 1 + j]).toNat_lt
        go_wp2_with fail
        refine (number_ok p (k + 1 + j) s _ hrr hin hs).mono ?_
        rintro e w2 ⟨rfl, hr2, hs2⟩
        have ho2 := owns_stays ho hs2 hp
        have hss2 := hss.trans hs2
        have hsz2 := hss2.size
        clear ho hrr hss hs2
        go_wp2_with (at_builtin; refine wpList_append_lies _ rfl (.tmp 8) (.tmp 11) 22 rfl w.heap.size 3 i0 (.int .i64 0) 1 8 Try.underlying22 hi hz0 hz1 hz2 rfl (by decide) u3 j _ rfl (ho2.alloc _) ⟨w2.heap.size, 0, none⟩ 1 1 [.int .i64 (s[k + 1 + j].toNat)] rfl rfl ?c1 ?c2 (by decide) ?c3 ?c4 ?c5 (w2.heap.size + 1) (by simp) ?_)
        case c1 => exact cell_one_new _ _ _
        case c2 => intro u hu; simp at hu; subst hu; rfl
        case c3 => unfold maxLen; omega
        case c4 => omega
        case c5 => simp; omega
        intro g cap w3 ho3 hgrow _ _
        have hr3 := hr2.grown (by omega) hgrow (fun e => by have := (ho2.lt p e.symm).1; omega)
        have hs3 := hss2.grown hgrow (fun g hg => (ho2.lt g hg).1)
        have HO : Hid (w3.ownsRow w.heap.size 3 1 (.slice (some ⟨g, 0, none⟩) (j + 1) cap) (j + 1) ((part s (k + 1) (j + 1)).map (Value.int .i64))) := by
          rw [part_succ hin]; unfold Hid; simpa using ho3
        clear ho3 hgrow ho2 hr2 hss2
        go_wp2
        go_roundw
        case rel => exact ⟨j + 1, by go_num, by omega, by omega, HO, hr3, hs3⟩
        case measure => simp [intOf]; omega
      · go_wp2_with fail
        refine (number_end p (k + 1 + j) s _ hrr (by omega)).mono ?_
        rintro e w2 ⟨rfl, hs2⟩
        go_wp2
        exact ⟨rfl, hss.trans hs2, Or.inr ⟨by omega, rfl⟩⟩
    · have hjn : j = n := by omega
      subst hjn
      go_wp2
      go_ret
      obtain ⟨a, cap, hv, hh⟩ := own_shape ho (part_len hjs)
      exact ⟨hss, Or.inl ⟨hjs, hrr, a, cap, by rw [← hv]; rfl, hh⟩⟩

theorem text_conv {w : World} {base n : Nat} {v : Value} {N : List Int} (h : w.ownsRow base 5 1 v n (N.map (Value.int .u8))) (hn : N.length = n) :
    ∃ a cap, v = .slice a n cap ∧ (convert 43 9 (.slice a n cap)).run Try.prog w = .ok (.string (strOfNums N)) w := by
  by_cases h0 : 0 < n
  · obtain ⟨g, cap, rfl, _, _⟩ := h.form h0
    refine ⟨_, cap, rfl, run_convert_bytes_arg w 43 5 Try.underlying43 Try.underlying5 g 0 _ cap N hn (fun i hi => ?_) 9 Try.underlying9⟩
    rw [Nat.zero_add, h.cellAt i (by omega)]
    simp [List.getElem?_eq_getElem (show i < N.length by omega)]
  · have e0 : n = 0 := by omega
    subst e0
    have : N = [] := List.eq_nil_of_length_eq_zero hn
    subst this
    rcases h.2 with ⟨rfl, _⟩ | ⟨g, cap, cur, rfl, _⟩
    · exact ⟨none, 0, rfl, run_convert_bytes_nil w 43 5 Try.underlying43 Try.underlying5 0 0 9 Try.underlying9⟩
    · exact ⟨_, cap, rfl, run_convert_bytes_arg w 43 5 Try.underlying43 Try.underlying5 g 0 _ cap [] rfl (fun i hi => by omega) 9 Try.underlying9⟩

set_option maxHeartbeats 800000 in
theorem text_any (p k n : Nat) (s : ByteArray) (w : World) (hr : Reader p s k w) (hk : k < s.size) (hs : s.size ≤ 9223372036854775807) (hn : s[k].toNat = n) (hp : p < w.heap.size) :
    Calls Try.prog 37 #[.pointer (some ⟨p, 0, none⟩)] w fun e w' => Stays p none w w' ∧
      ((k + 1 + n ≤ s.size ∧ Reader p s (k + 1 + n) w' ∧ e = .returned (.string (strOfNums (part s (k + 1) n)))) ∨ (s.size < k + 1 + n ∧ e = .panicked endedPanic)) := by
  obtain ⟨i0, hi, hz0, hz1, hz2⟩ := info_parts Try.info5
  have hn8 : n < 256 := by have := s[k].toNat_lt; omega
  go_enter Try.func37, Try.ntmps37
  go_wp2_with fail
  refine (number_ok p k s _ hr hk hs).mono ?_
  rintro e w1 ⟨rfl, hr1, hs1⟩
  rw [hn]
  clear hn
  go_wp2_with fail
  go_loopw [3, 6] (fun v i wr => ∃ j : Nat, i = .int .i64 j ∧ j ≤ n ∧ k + 1 + j ≤ s.size ∧ wr.ownsRow w.heap.size 5 1 v j ((part s (k + 1) j).map (Value.int .u8)) ∧ Reader p s (k + 1 + j) wr ∧ Stays p none w wr)
    (fun _ i _ => n - (intOf i).toNat)
  case atStart => exact ⟨0, rfl, Nat.zero_le _, by omega, by rw [part_zero]; exact World.ownsRow_nil _ _ _ _, hr1, hs1⟩
  case round =>
    obtain ⟨j, rfl, hj, hjs, ho, hrr, hss⟩ := hrel
    have hsz := hss.size
    clear hr1 hs1
    by_cases hlt : j < n
    · by_cases hin : k + 1 + j < s.size
      · have hb := (s[k + 1 + j]).toNat_lt
        go_wp2_with fail
        refine (next_ok p (k + 1 + j) s _ hrr hin hs).mono ?_
        rintro e w2 ⟨rfl, hr2, hs2⟩
        have ho2 := owns_stays ho hs2 hp
        have hss2 := hss.trans hs2
        have hsz2 := hss2.size
        clear ho hrr hss hs2
        go_wp2_with (at_builtin; refine wpList_append_lies _ rfl (.tmp 8) (.tmp 11) 43 rfl w.heap.size 5 i0 (.int .u8 0) 1 1 Try.underlying43 hi hz0 hz1 hz2 rfl (by decide) u3 j _ rfl (ho2.alloc _) ⟨w2.heap.size, 0, none⟩ 1 1 [.int .u8 (s[k + 1 + j].toNat)] rfl rfl ?c1 ?c2 (by decide) ?c3 ?c4 ?c5 (w2.heap.size + 1) (by simp) ?_)
        case c1 => exact cell_one_new _ _ _
        case c2 => intro u hu; simp at hu; subst hu; rfl
        case c3 => unfold maxLen; omega
        case c4 => omega
        case c5 => simp; omega
        intro g cap w3 ho3 hgrow _ _
        have hr3 := hr2.grown (by omega) hgrow (fun e => by have := (ho2.lt p e.symm).1; omega)
        have hs3 := hss2.grown hgrow (fun g hg => (ho2.lt g hg).1)
        have HO : Hid (w3.ownsRow w.heap.size 5 1 (.slice (some ⟨g, 0, none⟩) (j + 1) cap) (j + 1) ((part s (k + 1) (j + 1)).map (Value.int .u8))) := by
          rw [part_succ hin]; unfold Hid; simpa using ho3
        clear ho3 hgrow ho2 hr2 hss2
        go_wp2
        go_roundw
        case rel => exact ⟨j + 1, by go_num, by omega, by omega, HO, hr3, hs3⟩
        case measure => simp [intOf]; omega
      · go_wp2_with fail
        refine (next_end p (k + 1 + j) s _ hrr (by omega)).mono ?_
        rintro e w2 ⟨rfl, hs2⟩
        go_wp2
        exact ⟨rfl, hss.trans hs2, Or.inr ⟨by omega, rfl⟩⟩
    · have hjn : j = n := by omega
      subst hjn
      obtain ⟨a, cap, hv, hh⟩ := text_conv ho (part_len hjs)
      rw [hv]
      clear hv ho
      go_wp2
      go_ret
      exact ⟨hss, Or.inl ⟨hjs, hrr, rfl⟩⟩

set_option maxHeartbeats 400000 in
theorem links_none (p k : Nat) (s : ByteArray) (w : World) (hr : Reader p s k w) (hk : s.size ≤ k) :
    Calls Try.prog 36 #[.pointer (some ⟨p, 0, none⟩)] w fun e w' => Stays p none w w' ∧ e = .panicked endedPanic := by
  go_enter Try.func36, Try.ntmps36
  go_wp2_with fail
  refine (number_end p k s _ hr hk).mono ?_
  rintro e w1 ⟨rfl, hs1⟩
  go_wp2
  exact ⟨rfl, hs1, rfl⟩

set_option maxHeartbeats 400000 in
theorem text_none (p k : Nat) (s : ByteArray) (w : World) (hr : Reader p s k w) (hk : s.size ≤ k) :
    Calls Try.prog 37 #[.pointer (some ⟨p, 0, none⟩)] w fun e w' => Stays p none w w' ∧ e = .panicked endedPanic := by
  go_enter Try.func37, Try.ntmps37
  go_wp2_with fail
  refine (number_end p k s _ hr hk).mono ?_
  rintro e w1 ⟨rfl, hs1⟩
  go_wp2
  exact ⟨rfl, hs1, rfl⟩
end Go.Proofs.Ytbppoffhpmoplaa
