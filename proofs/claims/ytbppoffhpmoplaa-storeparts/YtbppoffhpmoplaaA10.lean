import Derived.Test.YtbppoffhpmoplaaA9
namespace Go.Proofs.Ytbppoffhpmoplaa
open Go.RowKit

/-- what read leaves. -/
def ReadPost (s : ByteArray) (w : World) (e : Ending) (w' : World) : Prop :=
  Below w.heap.size w w' ∧
  ((∃ i k L T a cap, Begins s i k L T ∧ e = .returned (.tuple #[.agg #[.int .i64 i, .int .i64 k, .slice a L.length cap, .string (strOfNums T)], .int .i64 ((4 + L.length + T.length : Nat) : Int), .int .i64 0]) ∧ Holds w' a L ∧ ∀ b off, a = some ⟨b, off, none⟩ → w.heap.size ≤ b) ∨
   ((∀ i k L T, ¬ Begins s i k L T) ∧ ∃ i k a n c t, e = .returned (.tuple #[.agg #[.int .i64 i, .int .i64 k, .slice a n c, .string t], .int .i64 0, .int .i64 5])))

theorem below_start (w : World) (a b c : Obj) : Below w.heap.size w (((w.alloc a).alloc b).alloc c) := ((below_alloc2 w a b).alloc (by simp; omega) c)

theorem read_fail {s : ByteArray} {w w1 : World} {B : Nat} {i k : Int} {a : Option Addr} {n c : Nat} {t : ByteArray} (hB : Below w.heap.size w w1) (hb : w.heap.size = B) (hl : B + 2 < w1.heap.size) (hno : ∀ i k L T, ¬ Begins s i k L T) :
    ReadPost s w (.returned (.tuple #[.agg #[.int .i64 i, .int .i64 k, .slice a n c, .string t], .int .i64 0, .int .i64 5])) ((w1.setCell ⟨B + 1, 0, none⟩ (.int .i64 5)).alloc (.cells #[] 59)) := by
  refine ⟨(hB.setCell (by show w.heap.size ≤ B + 1; omega) _).alloc (by simp [World.setCell]; omega) _, Or.inr ⟨hno, i, k, a, n, c, t, rfl⟩⟩

theorem Out.setE {B : Nat} {x0 x1 x2 x3 : Value} {w : World} (h : Out B x0 x1 x2 x3 w) : Out B x0 x1 x2 x3 (w.setCell ⟨B + 1, 0, none⟩ (.int .i64 0)) :=
  ⟨(World.cell?_setCell_other _ _ _ _ (by simp)).trans h.c0, (World.cell?_setCell_other _ _ _ _ (by simp)).trans h.c1, (World.cell?_setCell_other _ _ _ _ (by simp)).trans h.c2, (World.cell?_setCell_other _ _ _ _ (by simp)).trans h.c3,
    fun i => (World.frozen?_setCell _ _ _ _).trans (h.f i), World.cell?_setCell_same _ _ _ h.e, (World.frozen?_setCell _ _ _ _).trans h.ef, by simpa [World.setCell] using h.lt⟩
theorem Out.drew {B : Nat} {x0 x1 x2 x3 : Value} {w : World} (h : Out B x0 x1 x2 x3 w) : Out B x0 x1 x2 x3 w.drew :=
  ⟨h.c0, h.c1, h.c2, h.c3, h.f, h.e, h.ef, h.lt⟩
theorem Holds.drew {w : World} {a : Option Addr} {L : List Int} (h : Holds w a L) : Holds w.drew a L := h
theorem ret_agg {o o' : Value} {x y : Int} (h : o = o') (hx : x = y) : Ending.returned (.tuple #[o, .int .i64 x, .int .i64 0]) = .returned (.tuple #[o', .int .i64 y, .int .i64 0]) := by rw [h, hx]

set_option maxHeartbeats 400000 in
theorem door_ret {R : Ending → World → Prop} (B : Nat) (y0 y1 y5 y6 y7 y8 y9 y10 y11 y12 y13 y14 y15 y16 y17 y18 y19 : Value) (x : Int) (x0 x1 x2 x3 : Value) (w : World) (h : Out B x0 x1 x2 x3 w)
    (hR : R (.returned (.tuple #[.agg #[x0, x1, x2, x3], .int .i64 x, .int .i64 0])) w) :
    bodyPostD Try.prog Try.f23 R Exit.ret { tmps := #[y0, y1, .pointer (some ⟨B, 0, none⟩), .int .i64 x, .pointer (some ⟨B + 1, 0, none⟩), y5, y6, y7, y8, y9, y10, y11, y12, y13, y14, y15, y16, y17, y18, y19], defers := [{ target := Target.fn (Fn.func 34) #[.pointer (some ⟨B + 1, 0, none⟩)], args := #[] }] } w := by
  obtain ⟨c0, c1, c2, c3, _, ce, _, _⟩ := h
  refine leaves_cons (f := 34) (args := #[.pointer (some ⟨B + 1, 0, none⟩)]) (by simp) (by simp [go_sem]) ?_
  refine (catch_idle ⟨B + 1, 0, none⟩ w).mono ?_
  rintro e u' w'' ⟨rfl, rfl, rfl⟩
  simp [Leaves, settle, results, Try.results23, go_sem, c0, c1, c2, c3, ce]
  exact hR

theorem Holds.set {w : World} {a : Option Addr} {L : List Int} {B i : Nat} (h : Holds w a L) (hne : ∀ b off, a = some ⟨b, off, none⟩ → b ≠ B) (y : Value) : Holds (w.setCell ⟨B, i, none⟩ y) a L := by
  intro j hj
  obtain ⟨b, off, rfl, hlt, hc⟩ := h j hj
  have := hne b off rfl
  exact ⟨b, off, rfl, by simpa [World.setCell] using hlt, fun x hx => (World.cell?_setCell_other _ _ _ _ (by intro e; cases e; exact this rfl)).trans (hc x hx)⟩

theorem Holds.stays {w w' : World} {a : Option Addr} {L : List Int} {p : Nat} (h : Holds w a L) (hs : Stays p none w w') (hne : ∀ b off, a = some ⟨b, off, none⟩ → b ≠ p) : Holds w' a L := by
  intro j hj
  obtain ⟨b, off, rfl, hlt, hc⟩ := h j hj
  exact ⟨b, off, rfl, Nat.lt_of_lt_of_le hlt hs.size, fun x hx => (World.cell?_of_block (a := ⟨b, off + x, none⟩) (hs.block b hlt (hne b off rfl) (by simp))).trans (hc x hx)⟩

set_option maxHeartbeats 800000 in
theorem read_any (s : ByteArray) (w : World) (hs : s.size ≤ 9223372036854775807) :
    Calls Try.prog 23 #[.string s] w (ReadPost s w) := by
  have hmf : ∀ (fn : Fn) (first cap : Array Value) (w : World), (Instr.makeFunc fn first cap).run Try.prog w = .ok (.func fn first cap) w := fun _ _ _ _ => rfl
  go_enter_defers Try.func23, Try.ntmps23
  go_wp2_with fail
  by_cases h0 : 0 < s.size
  · refine (number_ok (w.heap.size + 2) 0 s _ (Reader.start _ _ _ _) h0 hs).mono ?_
    rintro e w1 ⟨rfl, hr1, hs1⟩
    have ho1 := (Out.start w _ _ _ _ _ _).stays hs1
    have hB1 := (below_start _ _ _ _).trans (hs1.below (B := w.heap.size) (by simp; omega) (by omega) (by simp))
    clear hs1
    have q0 := ho1.c0
    have q0f := ho1.f 0
    go_wp2_with fail
    have ho2 := ho1.set0 (.int .i64 s[0].toNat)
    have hr2 := hr1.set (B := w.heap.size) (i := 0) (by omega) (.int .i64 s[0].toNat)
    have hB2 := hB1.setCell (p := ⟨w.heap.size, 0, none⟩) (Nat.le_refl _) (.int .i64 s[0].toNat)
    clear ho1 hr1 hB1 q0 q0f
    by_cases h1 : 1 < s.size
    · refine (number_ok (w.heap.size + 2) 1 s _ hr2 h1 hs).mono ?_
      rintro e w2 ⟨rfl, hr3, hs3⟩
      have ho3 := ho2.stays hs3
      have hB3 := hB2.trans (hs3.below (B := w.heap.size) (by have := ho2.lt; omega) (by omega) (by simp))
      clear hs3 hr2 ho2 hB2
      have q1 := ho3.c1
      have q1f := ho3.f 1
      go_wp2_with fail
      have ho4 := ho3.set1 (.int .i64 s[1].toNat)
      have hr4 : Reader (w.heap.size + 2) s 2 _ := hr3.set (B := w.heap.size) (i := 1) (by omega) (.int .i64 s[1].toNat)
      have hB4 := hB3.setCell (p := ⟨w.heap.size, 1, none⟩) (Nat.le_refl _) (.int .i64 s[1].toNat)
      clear ho3 hr3 hB3 q1 q1f
      by_cases h2 : 2 < s.size
      · obtain ⟨n, hn⟩ : ∃ n, s[2].toNat = n := ⟨_, rfl⟩
        have HN : Hid (s[2].toNat = n) := hn
        have hn8 : n < 256 := by have := s[2].toNat_lt; omega
        refine (links_any (w.heap.size + 2) 2 n s _ hr4 h2 hs hn ho4.lt).mono ?_
        clear hn
        rintro e w3 ⟨hs5, ⟨hfit, hr5, a, cap, rfl, hh, hab⟩ | ⟨hfit, rfl⟩⟩
        · have ho5 := ho4.stays hs5
          have hB5 := hB4.trans (hs5.below (B := w.heap.size) (by have := ho4.lt; omega) (by omega) (by simp))
          have hab' : ∀ b off, a = some ⟨b, off, none⟩ → w.heap.size + 2 < b := fun b off e => by have := hab b off e; have := ho4.lt; simp [World.setCell] at *; omega
          clear hs5 hr4 ho4 hB4 hab
          have q2 := ho5.c2
          have q2f := ho5.f 2
          go_wp2_with fail
          have ho6 := ho5.set2 (.slice a n cap)
          have hr6 : Reader (w.heap.size + 2) s (3 + n) _ := hr5.set (B := w.heap.size) (i := 2) (by omega) (.slice a n cap)
          have hB6 := hB5.setCell (p := ⟨w.heap.size, 2, none⟩) (Nat.le_refl _) (.slice a n cap)
          have hh6 := hh.set (B := w.heap.size) (i := 2) (fun b off e => by have := hab' b off e; omega) (.slice a n cap)
          clear ho5 hr5 hB5 q2 q2f hh
          by_cases h3 : 3 + n < s.size
          · obtain ⟨m, hm⟩ : ∃ m, s[3 + n].toNat = m := ⟨_, rfl⟩
            have HM : Hid (s[3 + n].toNat = m) := hm
            have hm8 : m < 256 := by have := s[3 + n].toNat_lt; omega
            refine (text_any (w.heap.size + 2) (3 + n) m s _ hr6 h3 hs hm ho6.lt).mono ?_
            clear hm
            rintro e w4 ⟨hs7, ⟨hfit4, hr7, rfl⟩ | ⟨hfit4, rfl⟩⟩
            · have ho7 := ho6.stays hs7
              have hB7 := hB6.trans (hs7.below (B := w.heap.size) (by have := ho6.lt; omega) (by omega) (by simp))
              have q3 := ho7.c3
              have q3f := ho7.f 3
              have hh7 := (hh6.stays hs7 (fun b off e => by have := hab' b off e; omega)).set (B := w.heap.size) (i := 3) (fun b off e => by have := hab' b off e; omega) (.string (strOfNums (part s (3 + n + 1) m)))
              have ho8 := ho7.set3 (.string (strOfNums (part s (3 + n + 1) m)))
              have hr8 := hr7.set (B := w.heap.size) (i := 3) (by omega) (.string (strOfNums (part s (3 + n + 1) m)))
              have hB8 := hB7.setCell (p := ⟨w.heap.size, 3, none⟩) (Nat.le_refl _) (.string (strOfNums (part s (3 + n + 1) m)))
              clear hr6 ho6 hB6 ho7 hr7 hs7 hh6 hB7
              go_wp2
              clear q3 q3f
              generalize w4.setCell ⟨w.heap.size, 3, none⟩ (.string (strOfNums (part s (3 + n + 1) m))) = W at *
              have ho9 := ((((ho8.set0 (.int .i64 s[0].toNat)).set1 (.int .i64 s[1].toNat)).set2 (.slice a n cap)).set3 (.string (strOfNums (part s (3 + n + 1) m)))).setE.drew
              have hB9 := (((((hB8.setCell (p := ⟨w.heap.size, 0, none⟩) (Nat.le_refl _) (.int .i64 s[0].toNat)).setCell (p := ⟨w.heap.size, 1, none⟩) (Nat.le_refl _) (.int .i64 s[1].toNat)).setCell (p := ⟨w.heap.size, 2, none⟩) (Nat.le_refl _) (.slice a n cap)).setCell (p := ⟨w.heap.size, 3, none⟩) (Nat.le_refl _) (.string (strOfNums (part s (3 + n + 1) m)))).setCell (p := ⟨w.heap.size + 1, 0, none⟩) (Nat.le_succ _) (.int .i64 0)).drew
              have hne := fun b off (e : a = some ⟨b, off, none⟩) => show b ≠ w.heap.size by have := hab' b off e; omega
              have hh9 := ((((((hh7.set (i := 0) hne (.int .i64 s[0].toNat)).set (i := 1) hne (.int .i64 s[1].toNat)).set (i := 2) hne (.slice a n cap)).set (i := 3) hne (.string (strOfNums (part s (3 + n + 1) m)))).set (B := w.heap.size + 1) (i := 0) (fun b off e => by have := hab' b off e; omega) (.int .i64 0))).drew
              have HH : Hid (Holds _ a (part s (2 + 1) n) ∧ Out w.heap.size _ _ _ _ _ ∧ Below _ _ _) := ⟨hh9, ho9, hB9⟩
              have HA : Hid (∀ b off, a = some ⟨b, off, none⟩ → w.heap.size ≤ b) := fun b off e => by have := hab' b off e; omega
              clear hh9 ho9 hB9 hne hab' hB8 hh7
              obtain ⟨c0, c1, c2, c3, cf, ce, cef, cl⟩ := ho8
              obtain ⟨r0, r1, r2⟩ := hr8
              have HB := begins_read h2 HN.out h3 HM.out hfit4
              have f0 := cf 0
              have f1 := cf 1
              have f2 := cf 2
              have f3 := cf 3
              clear cf
              go_region
              go_wp2
              refine door_ret w.heap.size _ _ _ _ _ _ _ _ _ _ _ _ _ _ _ _ _ _ _ _ _ _ _ HH.out.2.1 ?_
              refine ⟨HH.out.2.2, Or.inl ⟨_, _, _, _, a, cap, HB, ?_, HH.out.1, HA⟩⟩
              rw [part_len (show 3 + n ≤ s.size by omega), part_len hfit4]
              exact ret_agg rfl (by omega)
            · have ho7 := ho6.stays hs7
              have hB7 := hB6.trans (hs7.below (B := w.heap.size) (by have := ho6.lt; omega) (by omega) (by simp))
              go_wp2
              refine door_panic w.heap.size _ _ _ _ _ _ _ _ _ _ _ _ _ _ _ _ _ _ _ _ _ w4 ho7 ?_
              exact read_fail hB7 rfl ho7.lt (fun i k L T h => by
                obtain ⟨b1, b2, b3⟩ := begins_sizes h
                have e2 := b2 h2
                have en := HN.out
                have e3 := b3 n (by omega) h3
                have em := HM.out
                omega)
          · refine (text_none (w.heap.size + 2) (3 + n) s _ hr6 (by omega)).mono ?_
            rintro e w4 ⟨hs7, rfl⟩
            have ho7 := ho6.stays hs7
            have hB7 := hB6.trans (hs7.below (B := w.heap.size) (by have := ho6.lt; omega) (by omega) (by simp))
            go_wp2
            refine door_panic w.heap.size _ _ _ _ _ _ _ _ _ _ _ _ _ _ _ _ _ _ _ _ _ w4 ho7 ?_
            exact read_fail hB7 rfl ho7.lt (fun i k L T h => by
              obtain ⟨b1, b2, _⟩ := begins_sizes h
              have e2 := b2 h2
              have en := HN.out
              omega)
        · have ho5 := ho4.stays hs5
          have hB5 := hB4.trans (hs5.below (B := w.heap.size) (by have := ho4.lt; omega) (by omega) (by simp))
          go_wp2
          refine door_panic w.heap.size _ _ _ _ _ _ _ _ _ _ _ _ _ _ _ _ _ _ _ _ _ w3 ho5 ?_
          exact read_fail hB5 rfl ho5.lt (fun i k L T h => by
            obtain ⟨b1, b2, _⟩ := begins_sizes h
            have e2 := b2 h2
            have en := HN.out
            omega)
      · refine (links_none (w.heap.size + 2) 2 s _ hr4 (by omega)).mono ?_
        rintro e w3 ⟨hs5, rfl⟩
        have ho5 := ho4.stays hs5
        have hB5 := hB4.trans (hs5.below (B := w.heap.size) (by have := ho4.lt; omega) (by omega) (by simp))
        go_wp2
        refine door_panic w.heap.size _ _ _ _ _ _ _ _ _ _ _ _ _ _ _ _ _ _ _ _ _ w3 ho5 ?_
        exact read_fail hB5 rfl ho5.lt (fun i k L T h => by have := (begins_sizes h).1; omega)
    · refine (number_end (w.heap.size + 2) 1 s _ hr2 (by omega)).mono ?_
      rintro e w2 ⟨rfl, hs3⟩
      have ho3 := ho2.stays hs3
      have hB3 := hB2.trans (hs3.below (B := w.heap.size) (by have := ho2.lt; omega) (by omega) (by simp))
      go_wp2
      refine door_panic w.heap.size _ _ _ _ _ _ _ _ _ _ _ _ _ _ _ _ _ _ _ _ _ w2 ho3 ?_
      exact read_fail hB3 rfl ho3.lt (fun i k L T h => by have := (begins_sizes h).1; omega)
  · refine (number_end (w.heap.size + 2) 0 s _ (Reader.start _ _ _ _) (by omega)).mono ?_
    rintro e w1 ⟨rfl, hs1⟩
    have ho1 := (Out.start w _ _ _ _ _ _).stays hs1
    go_wp2
    refine door_panic w.heap.size _ _ _ _ _ _ _ _ _ _ _ _ _ _ _ _ _ _ _ _ _ w1 ho1 ?_
    exact read_fail ((below_start _ _ _ _).trans (hs1.below (B := w.heap.size) (by simp; omega) (by omega) (by simp))) rfl ho1.lt (fun i k L T h => by have := (begins_sizes h).1; omega)
end Go.Proofs.Ytbppoffhpmoplaa
