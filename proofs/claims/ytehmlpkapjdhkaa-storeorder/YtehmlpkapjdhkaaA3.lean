import Derived.Test.YtehmlpkapjdhkaaA2
namespace Go.Proofs.Ytehmlpkapjdhkaa
open Go.RowKit

theorem bcell {W w1 : World} (hb : Below W.heap.size W w1) : (∀ b o, b < W.heap.size → w1.cell? ⟨b, o, none⟩ = W.cell? ⟨b, o, none⟩) ∧ (∀ b o, b < W.heap.size → w1.frozen? ⟨b, o, none⟩ = W.frozen? ⟨b, o, none⟩) :=
  ⟨fun b o h => hb.cell (p := ⟨b, o, none⟩) h, fun b o h => hb.frozen (p := ⟨b, o, none⟩) h⟩

def checkE (id kind : Int) (L : List Int) (n : Nat) : Int :=
  if id < 1 ∨ 99 < id then 3 else if kind < 1 ∨ 3 < kind then 7 else if 4 < L.length ∨ 8 < n then 2
  else if linksE id kind 0 0 L ≠ 0 then linksE id kind 0 0 L
  else if (kind = 1 ∧ 0 < L.length) ∨ (kind = 3 ∧ L.length = 0) then 1 else 0

theorem ck_range {id kind : Int} {L : List Int} {n : Nat} (h : id < 1 ∨ 99 < id) : checkE id kind L n = 3 := by rw [checkE, if_pos h]
theorem ck_kind {id kind : Int} {L : List Int} {n : Nat} (h0 : 1 ≤ id ∧ id ≤ 99) (h : kind < 1 ∨ 3 < kind) : checkE id kind L n = 7 := by rw [checkE, if_neg (by omega), if_pos h]
theorem ck_many {id kind : Int} {L : List Int} {n : Nat} (h0 : 1 ≤ id ∧ id ≤ 99) (h1 : 1 ≤ kind ∧ kind ≤ 3) (h : (4 : Int) < L.length ∨ (8 : Int) < n) : checkE id kind L n = 2 := by rw [checkE, if_neg (by omega), if_neg (by omega), if_pos (by omega)]
theorem ck_links {id kind : Int} {L : List Int} {n : Nat} (h0 : 1 ≤ id ∧ id ≤ 99) (h1 : 1 ≤ kind ∧ kind ≤ 3) (h : (L.length : Int) ≤ 4 ∧ (n : Int) ≤ 8) (h2 : linksE id kind 0 0 L ≠ 0) : checkE id kind L n = linksE id kind 0 0 L := by rw [checkE, if_neg (by omega), if_neg (by omega), if_neg (by omega), if_pos h2]
theorem ck_form {id kind : Int} {L : List Int} {n : Nat} (h0 : 1 ≤ id ∧ id ≤ 99) (h1 : 1 ≤ kind ∧ kind ≤ 3) (h : (L.length : Int) ≤ 4 ∧ (n : Int) ≤ 8) (h2 : linksE id kind 0 0 L = 0) (h3 : (kind = 1 ∧ 0 < L.length) ∨ (kind = 3 ∧ L.length = 0)) : checkE id kind L n = 1 := by rw [checkE, if_neg (by omega), if_neg (by omega), if_neg (by omega), if_neg (by omega), if_pos h3]
theorem ck_ok {id kind : Int} {L : List Int} {n : Nat} (h0 : 1 ≤ id ∧ id ≤ 99) (h1 : 1 ≤ kind ∧ kind ≤ 3) (h : (L.length : Int) ≤ 4 ∧ (n : Int) ≤ 8) (h2 : linksE id kind 0 0 L = 0) (h3 : ¬ ((kind = 1 ∧ 0 < L.length) ∨ (kind = 3 ∧ L.length = 0))) : checkE id kind L n = 0 := by rw [checkE, if_neg (by omega), if_neg (by omega), if_neg (by omega), if_neg (by omega), if_neg h3]

set_option maxHeartbeats 800000 in
theorem check_any (id kind : Int) (a : Option Addr) (c : Nat) (L : List Int) (t : ByteArray) (w : World)
    (h : Holds w a L) (l : L.length ≤ 9223372036854775807) :
    Calls Try.prog 20 #[.agg #[.int .i64 id, .int .i64 kind, .slice a L.length c, .string t]] w
      fun e w' => e = .returned (.int .i64 (checkE id kind L t.size)) ∧ Below w.heap.size w w' := by
  have h' := h.below (below_alloc w (.cells #[.int .i64 id, .int .i64 kind, .slice a L.length c, .string t] 28))
  go_enter Try.func20, Try.ntmps20
  go_wp2_with fail
  · go_ret
    exact ⟨ret_int (ck_range ‹_›).symm, below_alloc _ _⟩
  · go_ret
    exact ⟨ret_int (ck_kind ‹_› ‹_›).symm, below_alloc _ _⟩
  · go_ret
    exact ⟨ret_int (ck_many ‹1 ≤ id ∧ id ≤ 99› ‹1 ≤ kind ∧ kind ≤ 3› ‹_›).symm, below_alloc _ _⟩
  · have H0 : 1 ≤ id ∧ id ≤ 99 := ‹_›
    have H1 : 1 ≤ kind ∧ kind ≤ 3 := ‹_›
    have H2 : (L.length : Int) ≤ 4 ∧ (t.size : Int) ≤ 8 := ‹_›
    refine (checkLinks_any id kind a c L t _ h' l).mono ?_
    rintro e w1 ⟨rfl, hb⟩
    have hB := (below_alloc _ _).trans (hb.mono (by simp))
    by_cases hz : linksE id kind 0 0 L = 0
    · rw [hz]
      have HZ : Hid (linksE id kind 0 0 L = 0) := hz
      clear hz
      obtain ⟨hc, hf⟩ := bcell hb
      by_cases k1 : kind = 1
      · subst k1
        cases L with
        | nil =>
          go_wp2
          go_ret
          exact ⟨ret_int (ck_ok H0 H1 H2 HZ.out (by simp)).symm, hB⟩
        | cons x xs =>
          go_wp2
          go_ret
          exact ⟨ret_int (ck_form H0 H1 H2 HZ.out (by simp)).symm, hB⟩
      · by_cases k3 : kind = 3
        · subst k3
          cases L with
          | nil =>
            go_wp2
            go_ret
            exact ⟨ret_int (ck_form H0 H1 H2 HZ.out (by simp)).symm, hB⟩
          | cons x xs =>
            have hne : (((x :: xs).length : Int) == 0) = false := by simp; omega
            go_wp2
            go_ret
            exact ⟨ret_int (ck_ok H0 H1 H2 HZ.out (by simp)).symm, hB⟩
        · have e1 : (kind == 1) = false := by simpa using k1
          have e3 : (kind == 3) = false := by simpa using k3
          go_wp2
          go_ret
          exact ⟨ret_int (ck_ok H0 H1 H2 HZ.out (by omega)).symm, hB⟩
    · have hz' : (linksE id kind 0 0 L != 0) = true := by simpa using hz
      go_wp2
      go_ret
      exact ⟨ret_int (ck_links H0 H1 H2 hz).symm, hB⟩
  · go_ret
    exact ⟨ret_int (ck_many ‹1 ≤ id ∧ id ≤ 99› ‹1 ≤ kind ∧ kind ≤ 3› (Or.inl ‹_›)).symm, below_alloc _ _⟩
  · go_ret
    exact ⟨ret_int (ck_kind ‹_› (Or.inl ‹_›)).symm, below_alloc _ _⟩
  · go_ret
    exact ⟨ret_int (ck_range (Or.inl ‹_›)).symm, below_alloc _ _⟩
end Go.Proofs.Ytehmlpkapjdhkaa
