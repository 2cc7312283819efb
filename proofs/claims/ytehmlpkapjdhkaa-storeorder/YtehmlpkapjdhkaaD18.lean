import Derived.Test.YtehmlpkapjdhkaaD17
import Derived.Deep.CutRange
namespace Go.Proofs.Ytehmlpkapjdhkaa
open Go.RowKit

theorem holds_take {w : World} {a : Option Addr} {l : List Ob} (h : HoldsS w a l) (n : Nat) : HoldsS w a (l.take n) := by
  intro i hi
  rw [List.length_take] at hi
  obtain ⟨b, off, e, hb, hc⟩ := h i (by omega)
  refine ⟨b, off, e, hb, fun j hj => ?_⟩
  rw [List.length_take] at hj
  rw [List.getElem_take]
  exact hc j (by omega)

set_option maxHeartbeats 400000 in
theorem find_okf (a : Option Addr) (c : Nat) (l : List Ob) (id : Int) (i : Nat) (w : World) (h : HoldsS w a l) (he : checkS l = 0) (hp : placeI l id = i) (hi : i < l.length) :
    Calls Try.prog 9 #[.slice a l.length c, .int .i64 id] w fun e w' => ∃ ta tc, e = .returned (.tuple #[l[i].val ta tc, .int .i64 0]) ∧ Holds w' ta l[i].links ∧ Below w.heap.size w w' ∧ ∀ b off, ta = some ⟨b, off, none⟩ → w.heap.size ≤ b := by
  have hl : l.length ≤ 9223372036854775807 := by have := (checkS_zero he).1; omega
  have hl4 : l[i].links.length ≤ 4 := (checkE_zero (checkS_err he l[i] (List.getElem_mem hi))).2.2.1
  have HE : Hid (checkS l = 0) := he
  have HP : Hid (placeI l id = i) := hp
  have C := Cells4.new w (.int .i64 0) (.int .i64 0) (.slice none 0 0) (.string { data := #[] }) 28
  have hB := below_alloc w (.cells #[.int .i64 0, .int .i64 0, .slice none 0 0, .string { data := #[] }] 28)
  clear he hp
  go_enter Try.func9, Try.ntmps9
  go_wp2_with fail
  refine (checkS_any a c l _ (h.below hB) hl).mono ?_
  rintro e w1 ⟨rfl, hb⟩
  rw [HE.out]
  have C1 := C.below hb C.lt
  have hB1 := hB.trans (hb.mono hB.size)
  clear hb C hB
  go_wp2_with fail
  refine (place_any a c l id _ (h.below hB1) hl).mono ?_
  rintro e w2 ⟨rfl, hb⟩
  rw [HP.out]
  have C2 := C1.below hb C1.lt
  have hB2 := hB1.trans (hb.mono hB1.size)
  clear hb C1 hB1
  obtain ⟨b, off, rfl, hbl, hc⟩ := (h.below hB2) i hi
  obtain ⟨sa, sc, x0, x1, x2, x3, x4, x5⟩ := hc i hi
  have hi' : (i : Int) < (l.length : Int) := by omega
  clear hc
  go_wp2_with fail
  refine (copyOf_any l[i] sa sc _ x4 (by omega)).mono ?_
  rintro e w3 ⟨ta, tc, rfl, hh, hb, hge, _⟩
  have C3 := C2.below hb C2.lt
  have cl2 := C2.lt
  have hB3 := below_set4 (B := w.heap.size) (x0 := .int .i64 l[i].id) (x1 := .int .i64 l[i].kind) (x2 := .slice ta l[i].links.length tc) (x3 := .string l[i].text) (hB2.trans (hb.mono hB2.size)) (Nat.le_refl _)
  have hH3 := holds_set4 (B := w.heap.size) (x0 := .int .i64 l[i].id) (x1 := .int .i64 l[i].kind) (x2 := .slice ta l[i].links.length tc) (x3 := .string l[i].text) hh (fun b' off' e _ => by have := hge b' off' e; omega)
  obtain ⟨c0, c1, c2, c3, f0, f1, f2, f3, cl⟩ := C3
  have hs2 := hB2.size
  have HH : Hid (_ ∧ _ ∧ ∀ b off, ta = some ⟨b, off, none⟩ → w.heap.size ≤ b) := ⟨hH3, hB3, fun b' off' e => by have := hge b' off' e; omega⟩
  clear hb C2 hB2 hB3 hH3 hh x0 x1 x2 x3 x4 hge
  go_wp2
  refine bodyPost_ret (v := .tuple #[l[i].val ta tc, .int .i64 0]) (by simp [results, Try.results9, go_sem, c0, c1, c2, c3]) rfl ?_
  exact ⟨ta, tc, rfl, HH.out.1, HH.out.2.1, HH.out.2.2⟩

/-- what is found in a beginning of a store. -/
theorem find_part (a : Option Addr) (c : Nat) (l m : List Ob) (hm : m = l.take m.length) (i : Nat) (hi : i < l.length) (w : World) (h : HoldsS w a l) (he : checkS l = 0) :
    Calls Try.prog 9 #[.slice a m.length c, .int .i64 l[i].id] w fun e w' => ∃ (X : Ob) (ta : Option Addr) (tc : Nat) (er : Int), e = .returned (.tuple #[X.val ta tc, .int .i64 er]) ∧ Holds w' ta X.links ∧ Below w.heap.size w w' ∧ (∀ b off, ta = some ⟨b, off, none⟩ → w.heap.size ≤ b) ∧ ((i < m.length ∧ X = l[i] ∧ er = 0) ∨ (m.length ≤ i ∧ er = 5)) := by
  have hr := (checkS_iff.1 he).2.2
  have hm0 : checkS m = 0 := by rw [hm]; exact checkS_take he _
  have hh : HoldsS w a m := by rw [hm]; exact holds_take h _
  rcases Nat.lt_or_ge i m.length with c1 | c1
  · have hp : placeI m l[i].id = i := by rw [hm]; exact placeI_take hr hi c1
    have hx : m[i] = l[i] := by
      have : m[i]? = l[i]? := by rw [hm, List.getElem?_take, if_pos c1]
      rw [List.getElem?_eq_getElem c1, List.getElem?_eq_getElem hi] at this
      exact Option.some.inj this
    refine (find_okf a c m l[i].id i w hh hm0 hp c1).mono ?_
    rintro e w' ⟨ta, tc, rfl, q1, q2, q3⟩
    rw [hx] at q1 ⊢
    exact ⟨l[i], ta, tc, 0, rfl, q1, q2, q3, .inl ⟨c1, rfl, rfl⟩⟩
  · have hp : placeI m l[i].id = -1 := by rw [hm]; exact placeI_past hr hi c1
    refine (find_none a c m l[i].id w hh hm0 hp).mono ?_
    rintro e w' ⟨rfl, q2⟩
    exact ⟨⟨0, 0, [], { data := #[] }⟩, none, 0, 5, rfl, (by intro i hi; simp at hi), q2, (fun b off e => by cases e), .inr ⟨c1, rfl⟩⟩

theorem find_whole (a : Option Addr) (c : Nat) (l : List Ob) (i : Nat) (hi : i < l.length) (w : World) (h : HoldsS w a l) (he : checkS l = 0) :
    Calls Try.prog 9 #[.slice a l.length c, .int .i64 l[i].id] w fun e w' => ∃ ta tc, e = .returned (.tuple #[l[i].val ta tc, .int .i64 0]) ∧ Holds w' ta l[i].links ∧ Below w.heap.size w w' :=
  find_ok a c l l[i].id i w h he (placeI_rise (checkS_iff.1 he).2.2 hi) hi

theorem C4.new (w : World) (x : Ob) (sa : Option Addr) (sc : Nat) (h : Holds w sa x.links) : C4 w.heap.size 0 x sa sc (w.alloc (.cells #[.int .i64 x.id, .int .i64 x.kind, .slice sa x.links.length sc, .string x.text] 28)) := by
  have C := Cells4.new w (.int .i64 x.id) (.int .i64 x.kind) (.slice sa x.links.length sc) (.string x.text) 28
  exact ⟨C.lt, C.c0, C.c1, C.c2, C.c3, h.below (below_alloc _ _)⟩

theorem C4.set4 {W : World} {B : Nat} {z0 z1 z2 z3 : Value} {X : Ob} {ta : Option Addr} {tc : Nat} (C : Cells4 B z0 z1 z2 z3 W) (hh : Holds W ta X.links) (hne : ∀ b off, ta = some ⟨b, off, none⟩ → b ≠ B) :
    C4 B 0 X ta tc ((((W.setCell ⟨B, 0, none⟩ (.int .i64 X.id)).setCell ⟨B, 1, none⟩ (.int .i64 X.kind)).setCell ⟨B, 2, none⟩ (.slice ta X.links.length tc)).setCell ⟨B, 3, none⟩ (.string X.text)) := by
  obtain ⟨c0, c1, c2, c3, f0, f1, f2, f3, cl⟩ := C
  refine ⟨by simpa [World.setCell] using cl, ?_, ?_, ?_, ?_, holds_set4 hh (fun b off e _ => hne b off e)⟩ <;> simp [go_sem, c0, c1, c2, c3]

theorem C4.other {W : World} {b o B : Nat} {x : Ob} {sa : Option Addr} {sc : Nat} {x0 x1 x2 x3 : Value} (C : C4 b o x sa sc W) (hb : b ≠ B) (hne : ∀ b off, sa = some ⟨b, off, none⟩ → 0 < x.links.length → b ≠ B) :
    C4 b o x sa sc ((((W.setCell ⟨B, 0, none⟩ x0).setCell ⟨B, 1, none⟩ x1).setCell ⟨B, 2, none⟩ x2).setCell ⟨B, 3, none⟩ x3) := by
  obtain ⟨cl, c0, c1, c2, c3, hh⟩ := C
  have hne' : ∀ x i, (⟨B, i, none⟩ : Addr) ≠ ⟨b, x, none⟩ := fun x i e => by cases e; exact hb rfl
  refine ⟨by simpa [World.setCell] using cl, ?_, ?_, ?_, ?_, holds_set4 hh hne⟩ <;>
    (rw [World.cell?_setCell_other _ _ _ _ (hne' _ _), World.cell?_setCell_other _ _ _ _ (hne' _ _), World.cell?_setCell_other _ _ _ _ (hne' _ _), World.cell?_setCell_other _ _ _ _ (hne' _ _)]; assumption)

end Go.Proofs.Ytehmlpkapjdhkaa
