import Derived.Test.YtdclffgbmcecdaaB6
import Derived.Test.YtdclffgbmcecdaaB3
import Derived.Lib.Strings
namespace Go.Proofs.Ytdclffgbmcecdaa
open Go.RowKit

theorem of_fail {s : ByteArray} {w w1 : World} {x0 x1 x2 x3 : Value} (hB : Below w.heap.size w w1) (hno : ∀ i k L T, ¬ Begins s i k L T) :
    DecPost s w (.returned (.tuple #[zeroO, .int .i64 0, .int .i64 5])) ((((w1.setCell ⟨w.heap.size, 0, none⟩ x0).setCell ⟨w.heap.size, 1, none⟩ x1).setCell ⟨w.heap.size, 2, none⟩ x2).setCell ⟨w.heap.size, 3, none⟩ x3) :=
  ⟨below_set4 hB (Nat.le_refl _), Or.inr (Or.inr ⟨hno, rfl⟩)⟩

set_option maxHeartbeats 1000000 in
theorem objectOf_short (s : ByteArray) (w : World) (hs : s.size ≤ 140737488355328) (h : s.size < 3) :
    Calls Try.prog 14 #[.string s] w (DecPost s w) := by
  have hno : ∀ i k L T, ¬ Begins s i k L T := fun i k L T h' => by have := (begins_sizes h').1; omega
  have HN : Hid (∀ i k L T, ¬ Begins s i k L T) := hno
  have hd : decide (s.size < 3) = true := by simp; omega
  have hd' : decide ((s.size : Int) < 3) = true := by simp; omega
  have HB := below_alloc w (.cells #[.int .i64 0, .int .i64 0, .slice none 0 0, .string { data := #[] }] 24)
  clear hno
  go_enter Try.func14, Try.ntmps14
  go_wp2
  go_quiet (fail)
  go_wp2
  refine bodyPost_ret (v := .tuple #[zeroO, .int .i64 0, .int .i64 5]) (by simp [results, Try.results14, go_sem]) rfl ?_
  exact of_fail (below_drewN HB _) HN.out

theorem index_at (s : ByteArray) (k : Nat) (i : Int) (hi : i = (k : Int)) (h : k < s.size) (w : World) : (Instr.index 9 (.string s) (.int .i64 i)).run Try.prog w = .ok (.int .u8 (s[k].toNat)) w := by
  subst hi
  rw [run_index_string w 9 s .i64 (k : Int) Try.underlying9]
  simp [h]

theorem wrap_small {x : Int} (h : 0 ≤ x ∧ x ≤ 140737488355328) : IntKind.i64.wrap x = x := by
  simp [IntKind.wrap, IntKind.bits, IntKind.signed]; omega

set_option maxHeartbeats 1000000 in
theorem objectOf_mid (s : ByteArray) (w : World) (n : Nat) (hs : s.size ≤ 140737488355328) (h : 2 < s.size) (hn : s[2].toNat = n) (h3 : s.size < 4 + n) :
    Calls Try.prog 14 #[.string s] w (DecPost s w) := by
  have hno : ∀ i k L T, ¬ Begins s i k L T := fun i k L T h' => by
    obtain ⟨b1, b2, _⟩ := begins_sizes h'
    have := b2 h
    omega
  have HN : Hid (∀ i k L T, ¬ Begins s i k L T) := hno
  have hd : decide (s.size < 3) = false := by simp; omega
  have hd' : decide ((s.size : Int) < 3) = false := by simp; omega
  have hn8 : n < 256 := by have := s[2].toNat_lt; omega
  have h2' : (2 : Int) < (s.size : Int) := by omega
  have hlt : decide ((s.size : Int) < 4 + (n : Int)) = true := by simp; omega
  have hw1 : IntKind.i64.wrap (n : Int) = n := wrap_small (by omega)
  have hw2 : IntKind.i64.wrap (4 + (n : Int)) = 4 + n := wrap_small (by omega)
  have HB := below_alloc w (.cells #[.int .i64 0, .int .i64 0, .slice none 0 0, .string { data := #[] }] 24)
  clear hno
  go_enter Try.func14, Try.ntmps14
  go_wp2
  go_quiet (fail)
  go_wp2
  refine bodyPost_ret (v := .tuple #[zeroO, .int .i64 0, .int .i64 5]) (by simp [results, Try.results14, go_sem]) rfl ?_
  exact of_fail (below_drewN HB _) HN.out

set_option maxHeartbeats 1000000 in
theorem objectOf_long (s : ByteArray) (w : World) (n m : Nat) (hs : s.size ≤ 140737488355328) (h : 2 < s.size) (hn : s[2].toNat = n) (h3 : 3 + n < s.size) (hm : s[3 + n].toNat = m) (h4 : s.size < 4 + n + m) :
    Calls Try.prog 14 #[.string s] w (DecPost s w) := by
  have hno : ∀ i k L T, ¬ Begins s i k L T := fun i k L T h' => by
    obtain ⟨b1, b2, b3⟩ := begins_sizes h'
    have e2 := b2 h
    have e3 := b3 n (by omega) h3
    omega
  have HN : Hid (∀ i k L T, ¬ Begins s i k L T) := hno
  have hd : decide (s.size < 3) = false := by simp; omega
  have hd' : decide ((s.size : Int) < 3) = false := by simp; omega
  have hn8 : n < 256 := by have := s[2].toNat_lt; omega
  have hm8 : m < 256 := by have := s[3 + n].toNat_lt; omega
  have h2' : (2 : Int) < (s.size : Int) := by omega
  have h3' : (3 : Int) + (n : Int) < (s.size : Int) := by omega
  have h0' : (0 : Int) ≤ 3 + (n : Int) := by omega
  have hix := fun w => index_at s (3 + n) (3 + (n : Int)) (by omega) h3 w
  rw [hm] at hix
  have hlt : decide ((s.size : Int) < 4 + (n : Int)) = false := by simp; omega
  have hw1 : IntKind.i64.wrap (n : Int) = n := wrap_small (by omega)
  have hw2 : IntKind.i64.wrap (4 + (n : Int)) = 4 + n := wrap_small (by omega)
  have hw3 : IntKind.i64.wrap (3 + (n : Int)) = 3 + n := wrap_small (by omega)
  have hw4 : IntKind.i64.wrap (m : Int) = m := wrap_small (by omega)
  have hw5 : IntKind.i64.wrap (4 + (n : Int) + (m : Int)) = 4 + n + m := wrap_small (by omega)
  have hlt2 : decide ((s.size : Int) < 4 + (n : Int) + (m : Int)) = true := by simp; omega
  have HB := below_alloc w (.cells #[.int .i64 0, .int .i64 0, .slice none 0 0, .string { data := #[] }] 24)
  clear hno
  go_enter Try.func14, Try.ntmps14
  go_wp2
  go_quiet (fail)
  go_wp2
  refine bodyPost_ret (v := .tuple #[zeroO, .int .i64 0, .int .i64 5]) (by simp [results, Try.results14, go_sem]) rfl ?_
  exact of_fail (below_drewN HB _) HN.out

theorem text_part {s : ByteArray} {n m : Nat} : s.extract (4 + n) (4 + n + m) = strOfNums (part s (3 + n + 1) m) := by
  refine nums_data ?_
  rw [strOfNums_data, part, nums, Lib.extract_data, ← List.map_drop, ← List.map_take, List.map_map, show 4 + n + m - (4 + n) = m from by omega, show 3 + n + 1 = 4 + n from by omega]
  simp [Function.comp_def]

/-- what holds at the head of ObjectOf's loop. -/
structure OfInv (w : World) (P : Nat) (x0 x1 : Int) (t s : ByteArray) (k : Nat) (wr : World) : Prop where
  below : Below w.heap.size w wr
  res : Cells4 w.heap.size (.int .i64 0) (.int .i64 0) (.slice none 0 0) (.string { data := #[] }) wr
  le : w.heap.size < P
  lt : P < wr.heap.size
  c0 : wr.cell? ⟨P, 0, none⟩ = some (.int .i64 x0)
  c1 : wr.cell? ⟨P, 1, none⟩ = some (.int .i64 x1)
  c3 : wr.cell? ⟨P, 3, none⟩ = some (.string t)
  f2 : wr.frozen? ⟨P, 2, none⟩ = false
  c2 : ∃ v, wr.cell? ⟨P, 2, none⟩ = some v ∧ wr.ownsRow (P + 1) 3 1 v k ((part s 3 k).map (Value.int .i64))

theorem OfInv.start {w : World} {x0 x1 : Int} {t s : ByteArray} {W : World} (hB : Below w.heap.size w W) (hC : Cells4 w.heap.size (.int .i64 0) (.int .i64 0) (.slice none 0 0) (.string { data := #[] }) W) :
    OfInv w W.heap.size x0 x1 t s 0 (W.alloc (.cells #[.int .i64 x0, .int .i64 x1, .slice none 0 0, .string t] 24)) := by
  have D := Cells4.new W (.int .i64 x0) (.int .i64 x1) (.slice none 0 0) (.string t) 24
  exact ⟨hB.alloc hB.size _, hC.below (below_alloc _ _) hC.lt, hC.lt, D.lt, D.c0, D.c1, D.c3, D.f2, ⟨_, D.c2, by rw [part_zero]; exact World.ownsRow_nil _ _ _ _⟩⟩

theorem OfInv.next {w : World} {P : Nat} {x0 x1 : Int} {t s : ByteArray} {k : Nat} {wr wa w1 : World} {v v' : Value} (h : OfInv w P x0 x1 t s k wr) (hin : 3 + k < s.size) (hb : Below wr.heap.size wr wa) (hg : wa.grownBy w1 v.ownBlock) (hlt : ∀ g, v.ownBlock = some g → P < g)
    (ho : w1.ownsRow (P + 1) 3 1 v' (k + 1) ((part s 3 k ++ [(s[3 + k].toNat : Int)]).map (Value.int .i64))) : OfInv w P x0 x1 t s (k + 1) (w1.setCell ⟨P, 2, none⟩ v') := by
  have hl := h.lt
  have hle := h.le
  have hs := hb.size
  have hB : Below (P + 1) wr w1 := ⟨hg.os.trans hb.os, hg.tape.trans hb.tape, hg.output.trans hb.output, Nat.le_trans hb.size hg.size, fun j hj => (hg.block j (by omega) (fun e => by have := hlt j e.symm; omega)).trans (hb.block j (by omega))⟩
  have hS : Below P w1 (w1.setCell ⟨P, 2, none⟩ v') := (Below.refl P w1).setCell (p := ⟨P, 2, none⟩) (Nat.le_refl _) _
  obtain ⟨u, hu, _⟩ := h.c2
  have hu1 : w1.cell? ⟨P, 2, none⟩ = some u := (hB.cell (p := ⟨P, 2, none⟩) (by simp)).trans hu
  refine ⟨(h.below.trans (hB.mono (by omega))).trans (hS.mono (by omega)), (h.res.below hB (by omega)).below hS (by omega), hle, ?_, (World.cell?_setCell_other _ _ _ _ (by simp)).trans ((hB.cell (p := ⟨P, 0, none⟩) (by simp)).trans h.c0), (World.cell?_setCell_other _ _ _ _ (by simp)).trans ((hB.cell (p := ⟨P, 1, none⟩) (by simp)).trans h.c1), (World.cell?_setCell_other _ _ _ _ (by simp)).trans ((hB.cell (p := ⟨P, 3, none⟩) (by simp)).trans h.c3),
    (World.frozen?_setCell _ _ _ _).trans ((hB.frozen (p := ⟨P, 2, none⟩) (by simp)).trans h.f2), ⟨v', World.cell?_setCell_same _ _ _ hu1, ?_⟩⟩
  · have := hB.size; simp [World.setCell]; omega
  · rw [part_succ hin]
    exact ownsRow_setCell_below ho (by simp) _

set_option maxHeartbeats 2000000 in
theorem objectOf_ok (s : ByteArray) (w : World) (n m : Nat) (hs : s.size ≤ 140737488355328) (h : 2 < s.size) (hn : s[2].toNat = n) (h3 : 3 + n < s.size) (hm : s[3 + n].toNat = m) (h4 : 4 + n + m ≤ s.size) :
    Calls Try.prog 14 #[.string s] w (DecPost s w) := by
  have HBEG : Hid (Begins s s[0].toNat s[1].toNat (part s 3 n) (part s (3 + n + 1) m)) := begins_read h hn h3 hm (by omega)
  have hd : decide (s.size < 3) = false := by simp; omega
  have hd' : decide ((s.size : Int) < 3) = false := by simp; omega
  have hn8 : n < 256 := by have := s[2].toNat_lt; omega
  have hm8 : m < 256 := by have := s[3 + n].toNat_lt; omega
  have h2' : (2 : Int) < (s.size : Int) := by omega
  have h1' : (1 : Int) < (s.size : Int) := by omega
  have h00 : (0 : Int) < (s.size : Int) := by omega
  have hN0 : 0 < s.size := by omega
  have hN1 : 1 < s.size := by omega
  have h3' : (3 : Int) + (n : Int) < (s.size : Int) := by omega
  have h0' : (0 : Int) ≤ 3 + (n : Int) := by omega
  have hix := fun w => index_at s (3 + n) (3 + (n : Int)) (by omega) h3 w
  rw [hm] at hix
  have hlt : decide ((s.size : Int) < 4 + (n : Int)) = false := by simp; omega
  have hw1 : IntKind.i64.wrap (n : Int) = n := wrap_small (by omega)
  have hw2 : IntKind.i64.wrap (4 + (n : Int)) = 4 + n := wrap_small (by omega)
  have hw3 : IntKind.i64.wrap (3 + (n : Int)) = 3 + n := wrap_small (by omega)
  have hw4 : IntKind.i64.wrap (m : Int) = m := wrap_small (by omega)
  have hw5 : IntKind.i64.wrap (4 + (n : Int) + (m : Int)) = 4 + n + m := wrap_small (by omega)
  have hw6 : IntKind.i64.wrap (s[0].toNat : Int) = s[0].toNat := wrap_small (by have := s[0].toNat_lt; omega)
  have hw7 : IntKind.i64.wrap (s[1].toNat : Int) = s[1].toNat := wrap_small (by have := s[1].toNat_lt; omega)
  have hlt2 : decide ((s.size : Int) < 4 + (n : Int) + (m : Int)) = false := by simp; omega
  have hsl : ∀ w, (Instr.slice 9 (.string s) (some (.int .i64 (4 + (n : Int)))) (some (.int .i64 (4 + (n : Int) + (m : Int)))) none).run Try.prog w = .ok (.string (s.extract (4 + n) (4 + n + m))) w := fun w => by
    have e := run_slice_string (P := Try.prog) w 9 s .i64 .i64 (4 + (n : Int)) (4 + (n : Int) + (m : Int)) Try.underlying9 (by omega) (by omega) (by omega)
    rw [e, show (4 + (n : Int)).toNat = 4 + n from by omega, show (4 + (n : Int) + (m : Int)).toNat = 4 + n + m from by omega]
  have C0 := Cells4.new w (.int .i64 0) (.int .i64 0) (.slice none 0 0) (.string { data := #[] }) 24
  have HB := below_alloc w (.cells #[.int .i64 0, .int .i64 0, .slice none 0 0, .string { data := #[] }] 24)
  go_enter Try.func14, Try.ntmps14
  go_wp2
  go_quiet (fail)
  have HB1 := below_drewN HB nq
  have C1 := C0.below (below_drewN (Below.refl _ _) nq) C0.lt
  clear HB C0
  go_wp2
  generalize (w.alloc (.cells #[.int .i64 0, .int .i64 0, .slice none 0 0, .string { data := #[] }] 24)).drewN nq = W at *
  refine wp_region_any (by kernel_rfl) ?_
  change wpAny _ _ _ _ _ _ _ (World.drew _)
  refine wpAny_take (i := 0) (v := ?_) rfl (by kernel_rfl) (by kernel_rfl) (by kernel_rfl) (fun _ _ _ h => h) (Or.inl ⟨by rfl, ?_⟩) ?_
  rotate_left
  · intro w; go_simp; with_reducible rfl
  try simp only [Act.put, List.getElem_toArray, List.getElem_cons_zero, List.setIfInBounds_toArray, List.set_cons_zero, List.set_cons_succ]
  refine wpAny_take (i := 1) (v := ?_) rfl (by kernel_rfl) (by kernel_rfl) (by kernel_rfl) (fun _ _ _ h => h) (Or.inl ⟨by rfl, ?_⟩) ?_
  rotate_left
  · intro w; go_simp; with_reducible rfl
  try simp only [Act.put, List.getElem_toArray, List.getElem_cons_succ, List.getElem_cons_zero, List.setIfInBounds_toArray, List.set_cons_zero, List.set_cons_succ]
  refine wpAny_take (i := 2) (v := ?_) rfl (by kernel_rfl) (by kernel_rfl) (by kernel_rfl) (fun _ _ _ h => h) (Or.inl ⟨by rfl, ?_⟩) ?_
  rotate_left
  · intro w; go_simp; with_reducible rfl
  try simp only [Act.put, List.getElem_toArray, List.getElem_cons_succ, List.getElem_cons_zero, List.setIfInBounds_toArray, List.set_cons_zero, List.set_cons_succ]
  refine wpAny_take (i := 3) (v := ?_) rfl (by kernel_rfl) (by kernel_rfl) (by kernel_rfl) (fun _ _ _ h => h) (Or.inl ⟨by rfl, ?_⟩) ?_
  rotate_left
  · intro w; go_simp; with_reducible rfl
  try simp only [Act.put, List.getElem_toArray, List.getElem_cons_succ, List.getElem_cons_zero, List.setIfInBounds_toArray, List.set_cons_zero, List.set_cons_succ]
  refine wpAny_take (i := 4) (v := ?_) rfl (by kernel_rfl) (by kernel_rfl) (by kernel_rfl) (fun _ _ _ h => h) (Or.inl ⟨by rfl, ?_⟩) ?_
  rotate_left
  · intro w; go_simp; with_reducible rfl
  try simp only [Act.put, List.getElem_toArray, List.getElem_cons_succ, List.getElem_cons_zero, List.setIfInBounds_toArray, List.set_cons_zero, List.set_cons_succ]
  refine wpAny_take (i := 5) (v := ?_) rfl (by kernel_rfl) (by kernel_rfl) (by kernel_rfl) (fun _ _ _ h => h) (Or.inl ⟨by rfl, ?_⟩) ?_
  rotate_left
  · intro w; go_simp; with_reducible rfl
  try simp only [Act.put, List.getElem_toArray, List.getElem_cons_succ, List.getElem_cons_zero, List.setIfInBounds_toArray, List.set_cons_zero, List.set_cons_succ]
  refine wpAny_take (i := 6) (v := ?_) rfl (by kernel_rfl) (by kernel_rfl) (by kernel_rfl) (fun _ _ _ h => h) (Or.inl ⟨by rfl, ?_⟩) ?_
  rotate_left
  · intro w; go_simp; with_reducible rfl
  try simp only [Act.put, List.getElem_toArray, List.getElem_cons_succ, List.getElem_cons_zero, List.setIfInBounds_toArray, List.set_cons_zero, List.set_cons_succ]
  refine wpAny_take (i := 7) (v := ?_) rfl (by kernel_rfl) (by kernel_rfl) (by kernel_rfl) (fun _ _ _ h => h) (Or.inl ⟨by rfl, ?_⟩) ?_
  rotate_left
  · intro w; go_simp; with_reducible rfl
  try simp only [Act.put, List.getElem_toArray, List.getElem_cons_succ, List.getElem_cons_zero, List.setIfInBounds_toArray, List.set_cons_zero, List.set_cons_succ]
  refine wpAny_take (i := 8) (v := ?_) rfl (by kernel_rfl) (by kernel_rfl) (by kernel_rfl) (fun _ _ _ h => h) (Or.inl ⟨by rfl, ?_⟩) ?_
  rotate_left
  · intro w; go_simp; with_reducible rfl
  try simp only [Act.put, List.getElem_toArray, List.getElem_cons_succ, List.getElem_cons_zero, List.setIfInBounds_toArray, List.set_cons_zero, List.set_cons_succ]
  refine wpAny_take (i := 9) (v := ?_) rfl (by kernel_rfl) (by kernel_rfl) (by kernel_rfl) (fun _ _ _ h => h) (Or.inl ⟨by rfl, ?_⟩) ?_
  rotate_left
  · intro w; go_simp; with_reducible rfl
  try simp only [Act.put, List.getElem_toArray, List.getElem_cons_succ, List.getElem_cons_zero, List.setIfInBounds_toArray, List.set_cons_zero, List.set_cons_succ]
  refine wpAny_take (i := 10) (v := ?_) rfl (by kernel_rfl) (by kernel_rfl) (by kernel_rfl) (fun _ _ _ h => h) (Or.inl ⟨by rfl, ?_⟩) ?_
  rotate_left
  · intro w; go_simp; with_reducible rfl
  try simp only [Act.put, List.getElem_toArray, List.getElem_cons_succ, List.getElem_cons_zero, List.setIfInBounds_toArray, List.set_cons_zero, List.set_cons_succ]
  refine wpAny_take (i := 11) (v := ?_) rfl (by kernel_rfl) (by kernel_rfl) (by kernel_rfl) (fun _ _ _ h => h) (Or.inl ⟨by rfl, ?_⟩) ?_
  rotate_left
  · intro w; go_simp; with_reducible rfl
  try simp only [Act.put, List.getElem_toArray, List.getElem_cons_succ, List.getElem_cons_zero, List.setIfInBounds_toArray, List.set_cons_zero, List.set_cons_succ]
  refine wpAny_ready (rs := [12]) (by kernel_rfl) (by simp) ?_
  refine AllReady.cons rfl (fun K hK => ?_) AllReady.nil
  go_simp
  refine hK _ _ ?_
  clear hK K
  try simp only [Act.put, List.getElem_toArray, List.getElem_cons_succ, List.getElem_cons_zero, List.setIfInBounds_toArray, List.set_cons_zero, List.set_cons_succ]
  refine wpAny_ready (rs := [13]) (by kernel_rfl) (by simp) ?_
  refine AllReady.cons rfl (fun K hK => ?_) AllReady.nil
  go_simp
  refine hK _ _ ?_
  clear hK K
  try simp only [Act.put, List.getElem_toArray, List.getElem_cons_succ, List.getElem_cons_zero, List.setIfInBounds_toArray, List.set_cons_zero, List.set_cons_succ]
  refine wpAny_done (by kernel_rfl) ?_ _
  have INV : OfInv w W.heap.size s[0].toNat s[1].toNat (s.extract (4 + n) (4 + n + m)) s 0 ((W.alloc (.cells #[.int .i64 s[0].toNat, .int .i64 s[1].toNat, .slice none 0 0, .string (s.extract (4 + n) (4 + n + m))] 24)).drew) := OfInv.start (W := W.drew) HB1.drew (C1.below (Below.refl _ _).drew C1.lt)
  rw [text_part] at INV ⊢
  generalize (W.alloc (.cells #[.int .i64 s[0].toNat, .int .i64 s[1].toNat, .slice none 0 0, .string (strOfNums (part s (3 + n + 1) m))] 24)).drew = W1 at *
  generalize W.heap.size = P at *
  clear hsl HB1 C1 hix hw1 hw2 hw3 hw4 hw5 hw6 hw7
  go_wp2
  go_loopw [8] (fun i wr => ∃ k : Nat, i = .int .i64 k ∧ k ≤ n ∧ OfInv w P s[0].toNat s[1].toNat (strOfNums (part s (3 + n + 1) m)) s k wr) (fun i _ => n - (intOf i).toNat)
  case atStart => exact ⟨0, rfl, Nat.zero_le _, INV⟩
  case round =>
    clear INV
    obtain ⟨k, rfl, hk, IV⟩ := hrel
    by_cases hlt : k < n
    · obtain ⟨v, hv2, ho⟩ := IV.c2
      have hkin : 3 + k < s.size := by omega
      have hltI : (k : Int) < (n : Int) := by omega
      have hixk := fun w => index_at s (3 + k) (3 + (k : Int)) (by omega) hkin w
      have hb := s[3 + k].toNat_lt
      have hwa : IntKind.i64.wrap (3 + (k : Int)) = 3 + k := wrap_small (by omega)
      have hwb : IntKind.i64.wrap (s[3 + k].toNat : Int) = s[3 + k].toNat := wrap_small (by omega)
      go_wp2
      refine wp_region_any (by kernel_rfl) ?_
      change wpAny _ _ _ _ _ _ _ (World.drew _)
      refine wpAny_take (i := 0) (v := ?_) rfl (by kernel_rfl) (by kernel_rfl) (by kernel_rfl) (fun _ _ _ h => h) (Or.inl ⟨by rfl, ?_⟩) ?_
      rotate_left
      · intro w; go_simp; with_reducible rfl
      try simp only [Act.put, List.getElem_toArray, List.getElem_cons_zero, List.setIfInBounds_toArray, List.set_cons_zero, List.set_cons_succ]
      refine wpAny_take (i := 2) (v := ?_) rfl (by kernel_rfl) (by kernel_rfl) (by kernel_rfl) (fun _ _ _ h => h) (Or.inl ⟨by rfl, ?_⟩) ?_
      rotate_left
      · intro w; go_simp; with_reducible rfl
      try simp only [Act.put, List.getElem_toArray, List.getElem_cons_succ, List.getElem_cons_zero, List.setIfInBounds_toArray, List.set_cons_zero, List.set_cons_succ]
      refine wpAny_take (i := 3) (v := ?_) rfl (by kernel_rfl) (by kernel_rfl) (by kernel_rfl) (fun _ _ _ h => h) (Or.inl ⟨by rfl, ?_⟩) ?_
      rotate_left
      · intro w; go_simp; with_reducible rfl
      try simp only [Act.put, List.getElem_toArray, List.getElem_cons_succ, List.getElem_cons_zero, List.setIfInBounds_toArray, List.set_cons_zero, List.set_cons_succ]
      refine wpAny_take (i := 4) (v := ?_) rfl (by kernel_rfl) (by kernel_rfl) (by kernel_rfl) (fun _ _ _ h => h) (Or.inl ⟨by rfl, ?_⟩) ?_
      rotate_left
      · intro w; go_simp; with_reducible rfl
      try simp only [Act.put, List.getElem_toArray, List.getElem_cons_succ, List.getElem_cons_zero, List.setIfInBounds_toArray, List.set_cons_zero, List.set_cons_succ]
      refine wpAny_take (i := 5) (v := ?_) rfl (by kernel_rfl) (by kernel_rfl) (by kernel_rfl) (fun _ _ _ h => h) (Or.inl ⟨by rfl, ?_⟩) ?_
      rotate_left
      · intro w; go_simp; with_reducible rfl
      try simp only [Act.put, List.getElem_toArray, List.getElem_cons_succ, List.getElem_cons_zero, List.setIfInBounds_toArray, List.set_cons_zero, List.set_cons_succ]
      refine wpAny_take (i := 6) (v := ?_) rfl (by kernel_rfl) (by kernel_rfl) (by kernel_rfl) (fun _ _ _ h => h) (Or.inl ⟨by rfl, ?_⟩) ?_
      rotate_left
      · intro w; go_simp; with_reducible rfl
      try simp only [Act.put, List.getElem_toArray, List.getElem_cons_succ, List.getElem_cons_zero, List.setIfInBounds_toArray, List.set_cons_zero, List.set_cons_succ]
      refine wpAny_ready (rs := [1, 7]) (by kernel_rfl) (by simp) ?_
      refine AllReady.cons rfl (fun K hK => ?_) (AllReady.cons rfl (fun K hK => ?_) AllReady.nil)
      · go_simp
        refine hK _ _ ?_
        clear hK K
        try simp only [Act.put, List.getElem_toArray, List.getElem_cons_succ, List.getElem_cons_zero, List.setIfInBounds_toArray, List.set_cons_zero, List.set_cons_succ]
        refine wpAny_ready (rs := [7]) (by kernel_rfl) (by simp) ?_
        refine AllReady.cons rfl (fun K hK => ?_) AllReady.nil
        go_simp
        refine hK _ _ ?_
        clear hK K
        try simp only [Act.put, List.getElem_toArray, List.getElem_cons_succ, List.getElem_cons_zero, List.setIfInBounds_toArray, List.set_cons_zero, List.set_cons_succ]
        have hbel : Below wr.heap.size wr ((wr.alloc (.cells #[.int .i64 s[3 + k].toNat] 3)).drew) := (below_alloc _ _).drew
        have h75 : Holds ((wr.alloc (.cells #[.int .i64 s[3 + k].toNat] 3)).drew) (some ⟨wr.heap.size, 0, none⟩) [(s[3 + k].toNat : Int)] := holds_new wr.drew [(s[3 + k].toNat : Int)] 3 _ rfl
        have ho1 : ((wr.alloc (.cells #[.int .i64 s[3 + k].toNat] 3)).drew).ownsRow (P + 1) 3 1 v k ((part s 3 k).map (Value.int .i64)) := ho.alloc _
        have hP1 : P + 1 ≤ ((wr.alloc (.cells #[.int .i64 s[3 + k].toNat] 3)).drew).heap.size := by have := IV.lt; have := hbel.size; omega
        generalize (wr.alloc (.cells #[.int .i64 s[3 + k].toNat] 3)).drew = wa at *
        refine wpAny_ready (rs := [8]) (by kernel_rfl) (by simp) ?_
        refine AllReady.cons rfl (fun K hK => ?_) AllReady.nil
        refine step_append_ints wa (by rfl) (.tmp 69) (.tmp 75) (by rfl) (P + 1) k v (part s 3 k) (by rfl) ho1 (some ⟨wr.heap.size, 0, none⟩) 1 1 [(s[3 + k].toNat : Int)] rfl (by rfl) h75 (by omega) hP1 ?_
        intro g' N cap' w1 hN ho2 hgr
        subst hN
        have INV2 := IV.next (v' := .slice g' (k + 1) cap') hkin hbel hgr (fun g hg => (ho.lt g hg).1) ho2
        have hcm : w1.cell? ⟨P, 2, none⟩ = some v := by
          rw [World.cell?_of_block (a := ⟨P, 2, none⟩) (hgr.block P (by have := hbel.size; have := IV.lt; omega) (fun e => by have := (ho.lt P e.symm).1; omega)), hbel.cell (p := ⟨P, 2, none⟩) IV.lt]; exact hv2
        have hfm : w1.frozen? ⟨P, 2, none⟩ = false := by
          rw [World.frozen?_of_block (a := ⟨P, 2, none⟩) (hgr.block P (by have := hbel.size; have := IV.lt; omega) (fun e => by have := (ho.lt P e.symm).1; omega)), hbel.frozen (p := ⟨P, 2, none⟩) IV.lt]; exact IV.f2
        refine hK _ _ ?_
        clear hK K ho2 hgr h75 ho1 hP1 hbel hv2 ho IV hixk hb hwa hwb
        try simp only [Act.put, List.getElem_toArray, List.getElem_cons_succ, List.getElem_cons_zero, List.setIfInBounds_toArray, List.set_cons_zero, List.set_cons_succ]
        refine wpAny_take (i := 9) (v := ?_) rfl (by kernel_rfl) (by kernel_rfl) (by kernel_rfl) (fun _ _ _ h => h) (Or.inl ⟨by rfl, ?_⟩) ?_
        rotate_left
        · intro w; go_simp; with_reducible rfl
        try simp only [Act.put, List.getElem_toArray, List.getElem_cons_succ, List.getElem_cons_zero, List.setIfInBounds_toArray, List.set_cons_zero, List.set_cons_succ]
        refine wpAny_ready (rs := [10]) (by kernel_rfl) (by simp) ?_
        refine AllReady.cons rfl (fun K hK => ?_) AllReady.nil
        go_simp
        refine hK _ _ ?_
        clear hK K
        try simp only [Act.put, List.getElem_toArray, List.getElem_cons_succ, List.getElem_cons_zero, List.setIfInBounds_toArray, List.set_cons_zero, List.set_cons_succ]
        refine wpAny_done (by kernel_rfl) ?_ _
        go_wp2
        go_roundw
        case rel => exact ⟨k + 1, by go_num, by omega, INV2⟩
        case measure => simp [intOf]; omega
      · go_simp
        refine hK _ _ ?_
        clear hK K
        try simp only [Act.put, List.getElem_toArray, List.getElem_cons_succ, List.getElem_cons_zero, List.setIfInBounds_toArray, List.set_cons_zero, List.set_cons_succ]
        have hv2' : ((wr.alloc (.cells #[.int .i64 s[3 + k].toNat] 3)).drew).cell? ⟨P, 2, none⟩ = some v := (World.cell?_alloc_past _ _ _ IV.lt).trans hv2
        refine wpAny_ready (rs := [1]) (by kernel_rfl) (by simp) ?_
        refine AllReady.cons rfl (fun K hK => ?_) AllReady.nil
        go_simp
        refine hK _ _ ?_
        clear hK K
        try simp only [Act.put, List.getElem_toArray, List.getElem_cons_succ, List.getElem_cons_zero, List.setIfInBounds_toArray, List.set_cons_zero, List.set_cons_succ]
        clear hv2'
        have hbel : Below wr.heap.size wr ((wr.alloc (.cells #[.int .i64 s[3 + k].toNat] 3)).drew) := (below_alloc _ _).drew
        have h75 : Holds ((wr.alloc (.cells #[.int .i64 s[3 + k].toNat] 3)).drew) (some ⟨wr.heap.size, 0, none⟩) [(s[3 + k].toNat : Int)] := holds_new wr.drew [(s[3 + k].toNat : Int)] 3 _ rfl
        have ho1 : ((wr.alloc (.cells #[.int .i64 s[3 + k].toNat] 3)).drew).ownsRow (P + 1) 3 1 v k ((part s 3 k).map (Value.int .i64)) := ho.alloc _
        have hP1 : P + 1 ≤ ((wr.alloc (.cells #[.int .i64 s[3 + k].toNat] 3)).drew).heap.size := by have := IV.lt; have := hbel.size; omega
        generalize (wr.alloc (.cells #[.int .i64 s[3 + k].toNat] 3)).drew = wa at *
        refine wpAny_ready (rs := [8]) (by kernel_rfl) (by simp) ?_
        refine AllReady.cons rfl (fun K hK => ?_) AllReady.nil
        refine step_append_ints wa (by rfl) (.tmp 69) (.tmp 75) (by rfl) (P + 1) k v (part s 3 k) (by rfl) ho1 (some ⟨wr.heap.size, 0, none⟩) 1 1 [(s[3 + k].toNat : Int)] rfl (by rfl) h75 (by omega) hP1 ?_
        intro g' N cap' w1 hN ho2 hgr
        subst hN
        have INV2 := IV.next (v' := .slice g' (k + 1) cap') hkin hbel hgr (fun g hg => (ho.lt g hg).1) ho2
        have hcm : w1.cell? ⟨P, 2, none⟩ = some v := by
          rw [World.cell?_of_block (a := ⟨P, 2, none⟩) (hgr.block P (by have := hbel.size; have := IV.lt; omega) (fun e => by have := (ho.lt P e.symm).1; omega)), hbel.cell (p := ⟨P, 2, none⟩) IV.lt]; exact hv2
        have hfm : w1.frozen? ⟨P, 2, none⟩ = false := by
          rw [World.frozen?_of_block (a := ⟨P, 2, none⟩) (hgr.block P (by have := hbel.size; have := IV.lt; omega) (fun e => by have := (ho.lt P e.symm).1; omega)), hbel.frozen (p := ⟨P, 2, none⟩) IV.lt]; exact IV.f2
        refine hK _ _ ?_
        clear hK K ho2 hgr h75 ho1 hP1 hbel hv2 ho IV hixk hb hwa hwb
        try simp only [Act.put, List.getElem_toArray, List.getElem_cons_succ, List.getElem_cons_zero, List.setIfInBounds_toArray, List.set_cons_zero, List.set_cons_succ]
        refine wpAny_take (i := 9) (v := ?_) rfl (by kernel_rfl) (by kernel_rfl) (by kernel_rfl) (fun _ _ _ h => h) (Or.inl ⟨by rfl, ?_⟩) ?_
        rotate_left
        · intro w; go_simp; with_reducible rfl
        try simp only [Act.put, List.getElem_toArray, List.getElem_cons_succ, List.getElem_cons_zero, List.setIfInBounds_toArray, List.set_cons_zero, List.set_cons_succ]
        refine wpAny_ready (rs := [10]) (by kernel_rfl) (by simp) ?_
        refine AllReady.cons rfl (fun K hK => ?_) AllReady.nil
        go_simp
        refine hK _ _ ?_
        clear hK K
        try simp only [Act.put, List.getElem_toArray, List.getElem_cons_succ, List.getElem_cons_zero, List.setIfInBounds_toArray, List.set_cons_zero, List.set_cons_succ]
        refine wpAny_done (by kernel_rfl) ?_ _
        go_wp2
        go_roundw
        case rel => exact ⟨k + 1, by go_num, by omega, INV2⟩
        case measure => simp [intOf]; omega
    · have hkn : k = n := by omega
      subst hkn
      obtain ⟨v, hv2, ho⟩ := IV.c2
      obtain ⟨a', cap', rfl, hh, hab⟩ := own_shape ho (part_len (show 3 + k ≤ s.size by omega))
      have hlen : (part s 3 k).length = k := part_len (by omega)
      have p0 := IV.c0
      have p1 := IV.c1
      have p3 := IV.c3
      clear ho
      obtain ⟨X, hX⟩ : ∃ X, X = part s 3 k := ⟨_, rfl⟩
      have HX : Hid (X = part s 3 k) := hX
      rw [← hX] at hh hlen
      clear hX
      subst hlen
      have hhA := hh
      go_wp2_with fail
      refine (checkObject_any s[0].toNat s[1].toNat a' cap' X (strOfNums (part s (3 + X.length + 1) m)) _ hh (by omega)).mono ?_
      rintro e w2 ⟨rfl, hb⟩
      rw [strOfNums_size]
      have HBEG' : Hid (Begins s s[0].toNat s[1].toNat X (part s (3 + X.length + 1) m)) := by unfold Hid; rw [← HX.out] at HBEG; exact HBEG.out
      have hTl : (part s (3 + X.length + 1) m).length = m := part_len (by omega)
      have HTl : Hid ((part s (3 + X.length + 1) m).length = m) := hTl
      have hB2 := IV.below.trans (hb.mono IV.below.size)
      have R2 := IV.res.below hb IV.res.lt
      have hh2 := hh.below hb
      have l0 := (hb.cell (p := ⟨P, 0, none⟩) IV.lt).trans p0
      have l1 := (hb.cell (p := ⟨P, 1, none⟩) IV.lt).trans p1
      have l2 := (hb.cell (p := ⟨P, 2, none⟩) IV.lt).trans hv2
      have l3 := (hb.cell (p := ⟨P, 3, none⟩) IV.lt).trans p3
      have hab' : ∀ b off, a' = some ⟨b, off, none⟩ → w.heap.size < b := fun b off e => by have := hab b off e; have := IV.le; omega
      obtain ⟨c0, c1, c2, c3, f0, f1, f2, f3, cl⟩ := R2
      clear hb p0 p1 p3 hv2 IV hTl hh hhA
      generalize part s (3 + X.length + 1) m = T at *
      by_cases hz : checkE s[0].toNat s[1].toNat X T.length = 0
      · rw [hz]
        have HZ : Hid (checkE s[0].toNat s[1].toNat X T.length = 0) := hz
        clear hz
        have HH := holds_set4 (B := w.heap.size) (x0 := .int .i64 s[0].toNat) (x1 := .int .i64 s[1].toNat) (x2 := .slice a' X.length cap') (x3 := .string (strOfNums T)) hh2 (fun b off e _ => by have := hab' b off e; omega)
        have HB := below_set4 (B := w.heap.size) (x0 := .int .i64 s[0].toNat) (x1 := .int .i64 s[1].toNat) (x2 := .slice a' X.length cap') (x3 := .string (strOfNums T)) hB2 (Nat.le_refl _)
        have HQ : Hid (_ ∧ _ ∧ ∀ b off, a' = some ⟨b, off, none⟩ → w.heap.size < b) := ⟨HH, HB, hab'⟩
        clear hh2 hB2 HH HB hab' hab
        go_wp2
        refine bodyPost_ret (v := .tuple #[.agg #[.int .i64 s[0].toNat, .int .i64 s[1].toNat, .slice a' X.length cap', .string (strOfNums T)], .int .i64 (4 + X.length + m), .int .i64 0]) (by simp [results, Try.results14, go_sem, c0, c1, c2, c3]) rfl ?_
        exact ⟨HQ.out.2.1, Or.inl ⟨_, _, X, T, a', cap', HBEG'.out, HZ.out, ret_agg rfl (by have := HTl.out; omega), HQ.out.1, fun b off e => Nat.le_of_lt (HQ.out.2.2 b off e)⟩⟩
      · have hz' : (checkE s[0].toNat s[1].toNat X T.length != 0) = true := by simpa using hz
        have HB := below_set4 (B := w.heap.size) (x0 := .int .i64 0) (x1 := .int .i64 0) (x2 := .slice none 0 0) (x3 := .string { data := #[] }) hB2 (Nat.le_refl _)
        clear hh2 hB2 hab hab'
        go_wp2
        refine bodyPost_ret (v := .tuple #[zeroO, .int .i64 0, .int .i64 (checkE s[0].toNat s[1].toNat X T.length)]) (by simp [results, Try.results14, go_sem, c0, c1, c2, c3]) rfl ?_
        exact ⟨HB, Or.inr (Or.inl ⟨_, _, X, T, HBEG'.out, hz, rfl⟩)⟩
end Go.Proofs.Ytdclffgbmcecdaa
