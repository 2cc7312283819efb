import Derived.Test.YtehmlpkapjdhkaaDoorMD
import Derived.Deep.CutRange
import Derived.RangeFuncNested
import Derived.RangeFuncBound
import Derived.RangeFuncCalls
import Derived.RangeFuncLeaves
import Derived.Shelf.Abstract
import Derived.Shelf.RegionOpen
import Derived.OwnWalkIn
import Derived.TacticsInMore
import Derived.LoopNIn
import Derived.LoopIn
import Derived.Deep.RegionHeld
import Derived.Test.YtehmlpkapjdhkaaDoorMA
import Derived.Deep.Slices
import Derived.SizedLaws
import Derived.Carry
namespace Go.Proofs.YtehmlpkapjdhkaaDoor
section
open Go.RowKit

theorem holds_take {w : World} {a : Option Addr} {l : List Ob} (h : HoldsS w a l) (n : Nat) : HoldsS w a (l.take n) := by
  intro i hi
  rw [List.length_take] at hi
  obtain ⟨b, off, e, hb, hc⟩ := h i (by omega)
  refine ⟨b, off, e, hb, fun j hj => ?_⟩
  rw [List.length_take] at hj
  rw [List.getElem_take]
  exact hc j (by omega)

set_option maxHeartbeats 400000 in
theorem find_okf (a : Option Addr) (c : Nat) (l : List Ob) (id : Int) (i : Nat) (w : World) (h : HoldsS w a l) (he : checkS l = 0) (hp : placeI l id = i) (hi : i < l.length) :
    Calls Tryd.prog 10 #[.slice a l.length c, .int .i64 id] w fun e w' => ∃ ta tc, e = .returned (.tuple #[l[i].val ta tc, .int .i64 0]) ∧ Holds w' ta l[i].links ∧ Below w.heap.size w w' ∧ ∀ b off, ta = some ⟨b, off, none⟩ → w.heap.size ≤ b := by
  have hl : l.length ≤ 9223372036854775807 := by have := (checkS_zero he).1; omega
  have hl4 : l[i].links.length ≤ 4 := (checkE_zero (checkS_err he l[i] (List.getElem_mem hi))).2.2.1
  have HE : Hid (checkS l = 0) := he
  have HP : Hid (placeI l id = i) := hp
  have C := Cells4.new w (.int .i64 0) (.int .i64 0) (.slice none 0 0) (.string { data := #[] }) 31
  have hB := below_alloc w (.cells #[.int .i64 0, .int .i64 0, .slice none 0 0, .string { data := #[] }] 31)
  clear he hp
  go_enter Tryd.func10, Tryd.ntmps10
  go_wp2_with fail
  refine (checkS_any a c l _ (h.below hB) hl).mono ?_
  rintro e w1 ⟨rfl, hb⟩
  rw [HE.out]
  have C1 := C.below hb C.lt
  have hB1 := hB.trans (hb.mono hB.size)
  clear hb C hB
  go_wp2_with fail
  refine (place_any a c l id _ (h.below hB1) hl).mono ?_
  rintro e w2 ⟨rfl, hb⟩
  rw [HP.out]
  have C2 := C1.below hb C1.lt
  have hB2 := hB1.trans (hb.mono hB1.size)
  clear hb C1 hB1
  obtain ⟨b, off, rfl, hbl, hc⟩ := (h.below hB2) i hi
  obtain ⟨sa, sc, x0, x1, x2, x3, x4, x5⟩ := hc i hi
  have hi' : (i : Int) < (l.length : Int) := by omega
  clear hc
  go_wp2_with fail
  refine (copyOf_any l[i] sa sc _ x4 (by omega)).mono ?_
  rintro e w3 ⟨ta, tc, rfl, hh, hb, hge, _⟩
  have C3 := C2.below hb C2.lt
  have cl2 := C2.lt
  have hB3 := below_set4 (B := w.heap.size) (x0 := .int .i64 l[i].id) (x1 := .int .i64 l[i].kind) (x2 := .slice ta l[i].links.length tc) (x3 := .string l[i].text) (hB2.trans (hb.mono hB2.size)) (Nat.le_refl _)
  have hH3 := holds_set4 (B := w.heap.size) (x0 := .int .i64 l[i].id) (x1 := .int .i64 l[i].kind) (x2 := .slice ta l[i].links.length tc) (x3 := .string l[i].text) hh (fun b' off' e _ => by have := hge b' off' e; omega)
  obtain ⟨c0, c1, c2, c3, f0, f1, f2, f3, cl⟩ := C3
  have hs2 := hB2.size
  have HH : Hid (_ ∧ _ ∧ ∀ b off, ta = some ⟨b, off, none⟩ → w.heap.size ≤ b) := ⟨hH3, hB3, fun b' off' e => by have := hge b' off' e; omega⟩
  clear hb C2 hB2 hB3 hH3 hh x0 x1 x2 x3 x4 hge
  go_wp2
  refine bodyPost_ret (v := .tuple #[l[i].val ta tc, .int .i64 0]) (by simp [results, Tryd.results10, go_sem, c0, c1, c2, c3]) rfl ?_
  exact ⟨ta, tc, rfl, HH.out.1, HH.out.2.1, HH.out.2.2⟩

/-- what is found in a beginning of a store. -/
theorem find_part (a : Option Addr) (c : Nat) (l m : List Ob) (hm : m = l.take m.length) (i : Nat) (hi : i < l.length) (w : World) (h : HoldsS w a l) (he : checkS l = 0) :
    Calls Tryd.prog 10 #[.slice a m.length c, .int .i64 l[i].id] w fun e w' => ∃ (X : Ob) (ta : Option Addr) (tc : Nat) (er : Int), e = .returned (.tuple #[X.val ta tc, .int .i64 er]) ∧ Holds w' ta X.links ∧ Below w.heap.size w w' ∧ (∀ b off, ta = some ⟨b, off, none⟩ → w.heap.size ≤ b) ∧ ((i < m.length ∧ X = l[i] ∧ er = 0) ∨ (m.length ≤ i ∧ er = 5)) := by
  have hr := (checkS_iff.1 he).2.2
  have hm0 : checkS m = 0 := by rw [hm]; exact checkS_take he _
  have hh : HoldsS w a m := by rw [hm]; exact holds_take h _
  rcases Nat.lt_or_ge i m.length with c1 | c1
  · have hp : placeI m l[i].id = i := by rw [hm]; exact placeI_take hr hi c1
    have hx : m[i] = l[i] := by
      have : m[i]? = l[i]? := by rw [hm, List.getElem?_take, if_pos c1]
      rw [List.getElem?_eq_getElem c1, List.getElem?_eq_getElem hi] at this
      exact Option.some.inj this
    refine (find_okf a c m l[i].id i w hh hm0 hp c1).mono ?_
    rintro e w' ⟨ta, tc, rfl, q1, q2, q3⟩
    rw [hx] at q1 ⊢
    exact ⟨l[i], ta, tc, 0, rfl, q1, q2, q3, .inl ⟨c1, rfl, rfl⟩⟩
  · have hp : placeI m l[i].id = -1 := by rw [hm]; exact placeI_past hr hi c1
    refine (find_none a c m l[i].id w hh hm0 hp).mono ?_
    rintro e w' ⟨rfl, q2⟩
    exact ⟨⟨0, 0, [], { data := #[] }⟩, none, 0, 5, rfl, (by intro i hi; simp at hi), q2, (fun b off e => by cases e), .inr ⟨c1, rfl⟩⟩

theorem find_whole (a : Option Addr) (c : Nat) (l : List Ob) (i : Nat) (hi : i < l.length) (w : World) (h : HoldsS w a l) (he : checkS l = 0) :
    Calls Tryd.prog 10 #[.slice a l.length c, .int .i64 l[i].id] w fun e w' => ∃ ta tc, e = .returned (.tuple #[l[i].val ta tc, .int .i64 0]) ∧ Holds w' ta l[i].links ∧ Below w.heap.size w w' :=
  find_ok a c l l[i].id i w h he (placeI_rise (checkS_iff.1 he).2.2 hi) hi

theorem C4.new (w : World) (x : Ob) (sa : Option Addr) (sc : Nat) (h : Holds w sa x.links) : C4 w.heap.size 0 x sa sc (w.alloc (.cells #[.int .i64 x.id, .int .i64 x.kind, .slice sa x.links.length sc, .string x.text] 31)) := by
  have C := Cells4.new w (.int .i64 x.id) (.int .i64 x.kind) (.slice sa x.links.length sc) (.string x.text) 31
  exact ⟨C.lt, C.c0, C.c1, C.c2, C.c3, h.below (below_alloc _ _)⟩

theorem C4.set4 {W : World} {B : Nat} {z0 z1 z2 z3 : Value} {X : Ob} {ta : Option Addr} {tc : Nat} (C : Cells4 B z0 z1 z2 z3 W) (hh : Holds W ta X.links) (hne : ∀ b off, ta = some ⟨b, off, none⟩ → b ≠ B) :
    C4 B 0 X ta tc ((((W.setCell ⟨B, 0, none⟩ (.int .i64 X.id)).setCell ⟨B, 1, none⟩ (.int .i64 X.kind)).setCell ⟨B, 2, none⟩ (.slice ta X.links.length tc)).setCell ⟨B, 3, none⟩ (.string X.text)) := by
  obtain ⟨c0, c1, c2, c3, f0, f1, f2, f3, cl⟩ := C
  refine ⟨by simpa [World.setCell] using cl, ?_, ?_, ?_, ?_, holds_set4 hh (fun b off e _ => hne b off e)⟩ <;> simp [go_sem, c0, c1, c2, c3]

theorem C4.other {W : World} {b o B : Nat} {x : Ob} {sa : Option Addr} {sc : Nat} {x0 x1 x2 x3 : Value} (C : C4 b o x sa sc W) (hb : b ≠ B) (hne : ∀ b off, sa = some ⟨b, off, none⟩ → 0 < x.links.length → b ≠ B) :
    C4 b o x sa sc ((((W.setCell ⟨B, 0, none⟩ x0).setCell ⟨B, 1, none⟩ x1).setCell ⟨B, 2, none⟩ x2).setCell ⟨B, 3, none⟩ x3) := by
  obtain ⟨cl, c0, c1, c2, c3, hh⟩ := C
  have hne' : ∀ x i, (⟨B, i, none⟩ : Addr) ≠ ⟨b, x, none⟩ := fun x i e => by cases e; exact hb rfl
  refine ⟨by simpa [World.setCell] using cl, ?_, ?_, ?_, ?_, holds_set4 hh hne⟩ <;>
    (rw [World.cell?_setCell_other _ _ _ _ (hne' _ _), World.cell?_setCell_other _ _ _ _ (hne' _ _), World.cell?_setCell_other _ _ _ _ (hne' _ _), World.cell?_setCell_other _ _ _ _ (hne' _ _)]; assumption)
end

section
open Go.RowKit

theorem right_links {l : List Ob} (h : checkS l = 0) : ∀ x ∈ l, ∀ y ∈ x.links, 1 ≤ y ∧ y < x.id := fun x hx => linksE_mem _ 0 0 (checkE_zero ((checkS_iff.1 h).2.1 x hx).1).2.2.2.2.1
theorem place_mem {l : List Ob} {i : Int} : 0 ≤ placeI l i ↔ ∃ x ∈ l, x.id = i := by
  constructor
  · intro h
    rcases placeI_cases l i with c | ⟨k, c, hk⟩
    · omega
    · obtain ⟨hk', e⟩ := placeI_get c
      exact ⟨_, List.getElem_mem hk', e⟩
  · rintro ⟨x, hx, rfl⟩
    rcases placeI_cases l x.id with c | ⟨k, c, hk⟩
    · unfold placeI at c
      split at c
      · omega
      · rename_i q
        rw [List.findIdx?_eq_none_iff] at q
        have := q x hx
        simp at this
    · omega
theorem rises_one {l : List Ob} (h : Rises l) {x y : Ob} (hx : x ∈ l) (hy : y ∈ l) (e : x.id = y.id) : x = y := by
  obtain ⟨i, hi, rfl⟩ := List.getElem_of_mem hx
  obtain ⟨j, hj, rfl⟩ := List.getElem_of_mem hy
  rcases Nat.lt_trichotomy i j with c | c | c
  · have := h.lt hi hj c; omega
  · subst c; rfl
  · have := h.lt hj hi c; omega
theorem kindAt_mem {l : List Ob} (h : Rises l) {x : Ob} (hx : x ∈ l) : kindAt l x.id = x.kind := by
  obtain ⟨i, hi, rfl⟩ := List.getElem_of_mem hx
  exact kindAt_at (placeI_rise h hi) hi
end

section
open Go.ChangeShapes Go.WideShapes Go.ChangeAt Go.RowKit Go.Joins Go.Deep

set_option maxRecDepth 100000 in
/-- four cells that read as an object. -/
theorem cells_object2 {H : Type} {enc : TypeId × Value → H} {W : World} {n : Nat} {cs : List Value} {x : DataW H × List MemPlace}
    (hl : cs.length = 4) (h : DataW.trod enc Tryd.prog W 0 (fun _ => true) true n 31 cs = some x) :
    ∃ (o : Ob) (sa : Option Addr) (sc : Nat), cs = [.int .i64 o.id, .int .i64 o.kind, .slice sa o.links.length sc, .string o.text] ∧ Holds W sa o.links ∧ o.links.length ≤ maxLen ∧ o.links.length ≤ sc := by
  obtain ⟨y0, y1, y2, y3, k, _, _, h0, h1, h2, h3⟩ := trod_struct4 Tryd.underlying31 h
  match cs, hl with
  | [v0, v1, v2, v3], _ =>
    have g0 : DataW.trod enc Tryd.prog W 0 (fun _ => true) true k 3 [v0] = some y0 := h0
    have g1 : DataW.trod enc Tryd.prog W 0 (fun _ => true) true k 3 [v1] = some y1 := h1
    have g2 : DataW.trod enc Tryd.prog W 0 (fun _ => true) true k 29 [v2] = some y2 := h2
    have g3 : DataW.trod enc Tryd.prog W 0 (fun _ => true) true k 9 [v3] = some y3 := h3
    obtain ⟨id, e0, _, _⟩ := DataW.trod_int Tryd.underlying3 g0
    obtain ⟨kind, e1, _, _⟩ := DataW.trod_int Tryd.underlying3 g1
    obtain ⟨t, e3, _, ht⟩ := DataW.trod_string Tryd.underlying9 g3
    simp only [List.cons.injEq, and_true] at e0 e1 e3
    subst e0 e1 e3
    rcases open_ints Tryd.underlying29 Tryd.underlying3 Tryd.cells3 g2 with ⟨e2, _⟩ | ⟨a, len, cap, zs, e2, _, hl, hm, hz, _, hcell, _⟩
    · simp only [List.cons.injEq, and_true] at e2
      subst e2
      exact ⟨⟨id, kind, [], t⟩, none, 0, rfl, fun i hi => by simp at hi, by simp, Nat.le_refl _⟩
    · simp only [List.cons.injEq, and_true] at e2
      subst e2
      simp only [if_true] at hz
      have hlen : (zs.take len).length = len := by rw [List.length_take]; omega
      refine ⟨⟨id, kind, zs.take len, t⟩, some a, cap, by simp only [hlen], fun i hi => ?_, by show (zs.take len).length ≤ maxLen; omega, by show (zs.take len).length ≤ cap; omega⟩
      have hi' : i < (zs.take len).length := hi
      obtain ⟨b, off, rfl, hc⟩ := ints_at hcell (by omega)
      refine ⟨b, off, rfl, lt_of_cell (a := ⟨b, off + 0, none⟩) (hc 0 (by omega)), fun j hj => ?_⟩
      have hj' : j < (zs.take len).length := hj
      rw [hc j (by omega)]
      simp only [List.getD_eq_getElem?_getD, List.getElem?_take, if_pos (show j < len by omega)]

set_option maxRecDepth 100000 in
/-- A list of objects that comes in, opened. -/
theorem open_objects2 {H : Type} {enc : TypeId × Value → H} {W : World} {r : Reach} {b0 : Nat} {v : Value} {d : DataW H} {p : List MemPlace}
    (hv : Value.okWide Tryd.prog W r b0 22 v) (h : DataW.Trod enc Tryd.prog W 0 (fun _ => true) true 22 v d p) :
    ∃ (a : Option Addr) (c : Nat) (l : List Ob), v = .slice a l.length c ∧ HoldsS W a l ∧ l.length ≤ maxLen ∧ l.length ≤ c ∧ (a = none → c = 0) ∧ Room W a l := by
  obtain ⟨a0, len0, cap0, rfl⟩ := okWide_slice Tryd.underlying22 hv
  obtain ⟨fuel, hf⟩ := h
  have hf' : DataW.trod enc Tryd.prog W 0 (fun _ => true) true fuel 22 [.slice a0 len0 cap0] = some (d, p) := hf
  rcases open_slice Tryd.underlying22 hf' with ⟨e, _⟩ | ⟨a, len, cap, m, n, D, Pl, e, _, hl, hm, hmm, _, hx⟩
  · simp only [List.cons.injEq, and_true] at e
    rw [e]
    exact ⟨none, 0, [], rfl, fun i hi => by simp at hi, by simp, by simp, fun _ => rfl, fun _ _ e => by cases e⟩
  · simp only [List.cons.injEq, and_true] at e
    rw [e]
    simp only [if_true] at hmm
    have each : ∀ i, i < len → ∃ q : Ob × Option Addr × Nat, (∀ j, j < 4 → W.cell? ((a.add (i * 4)).add j) = [Value.int .i64 q.1.id, .int .i64 q.1.kind, .slice q.2.1 q.1.links.length q.2.2, .string q.1.text][j]?) ∧ Holds W q.2.1 q.1.links ∧ q.1.links.length ≤ maxLen ∧ q.1.links.length ≤ q.2.2 := fun i hi => by
      obtain ⟨cs', h1, h2⟩ := hx i (by omega)
      rw [Tryd.cells31] at h1
      obtain ⟨_, hlen, hcell⟩ := World.cells?_some h1
      obtain ⟨o, sa, sc, rfl, hh, hm', hsc⟩ := cells_object2 hlen h2
      exact ⟨(o, sa, sc), fun j hj => hcell j hj, hh, hm', hsc⟩
    have : Inhabited (Ob × Option Addr × Nat) := ⟨(⟨0, 0, [], { data := #[] }⟩, none, 0)⟩
    obtain ⟨q, hq⟩ := choose_lt each
    refine ⟨some a, cap, (List.range len).map fun i => (q i).1, by simp, fun i hi => ?_, by simp; omega, by simpa using hl, (fun e => by cases e), ?room⟩
    case room =>
      intro b off e k hk
      cases e
      have hk' : k < len := by simpa using hk
      obtain ⟨hc, hh, hm', hsc⟩ := hq k hk'
      have c2 := hc 2 (by omega)
      have hadd2 : ((⟨b, off, none⟩ : Addr).add (k * 4)).add 2 = ⟨b, off + k * 4 + 2, none⟩ := by rw [add_plain, add_plain]
      rw [hadd2] at c2
      refine ⟨lt_of_cell (a := ⟨b, off + k * 4 + 2, none⟩) (c2.trans rfl), fun sa n sc hcc => ?_⟩
      rw [c2] at hcc
      simp only [List.getElem?_cons_succ, List.getElem?_cons_zero, Option.some.injEq, Value.slice.injEq] at hcc
      omega
    have hpos : 0 < len := by simp at hi; omega
    obtain ⟨b, off, spot⟩ := a
    have hsp : spot = none := by
      have := (hq 0 hpos).1 0 (by omega)
      simp [Addr.add] at this
      simpa [Addr.add] using World.cell?_spot this
    subst hsp
    have hadd : ∀ i j, ((⟨b, off, none⟩ : Addr).add (i * 4)).add j = ⟨b, off + i * 4 + j, none⟩ := fun i j => by rw [add_plain, add_plain]
    refine ⟨b, off, rfl, ?_, fun k hk => ?_⟩
    · have := (hq 0 hpos).1 0 (by omega)
      rw [hadd] at this
      exact lt_of_cell (a := ⟨b, off + 0 * 4 + 0, none⟩) (this.trans rfl)
    · have hk' : k < len := by simpa using hk
      obtain ⟨hc, hh, hm', _⟩ := hq k hk'
      simp only [List.getElem_map, List.getElem_range]
      have c0 := hc 0 (by omega)
      have c1 := hc 1 (by omega)
      have c2 := hc 2 (by omega)
      have c3 := hc 3 (by omega)
      rw [hadd] at c0 c1 c2 c3
      exact ⟨(q k).2.1, (q k).2.2, c0, c1, c2, c3, hh, by unfold maxLen at hm'; omega⟩
end
end Go.Proofs.YtehmlpkapjdhkaaDoor
