import Derived.Test.YtbppoffhpmoplaaA4
namespace Go.Proofs.Ytbppoffhpmoplaa
open Go.RowKit

theorem linksE_mem {id kind : Int} : ∀ (L : List Int) (i : Nat) (last : Int), linksE id kind i last L = 0 → ∀ x ∈ L, 1 ≤ x ∧ x < id := by
  intro L
  induction L with
  | nil => intro _ _ _ x hx; cases hx
  | cons y ys ih =>
    intro i last h x hx
    rw [linksE] at h
    split at h
    · cases h
    · split at h
      · cases h
      · rcases List.mem_cons.1 hx with rfl | hx
        · omega
        · exact ih _ _ h x hx

theorem checkE_zero {id kind : Int} {L : List Int} {n : Nat} (h : checkE id kind L n = 0) :
    (1 ≤ id ∧ id ≤ 99) ∧ (1 ≤ kind ∧ kind ≤ 3) ∧ L.length ≤ 4 ∧ n ≤ 8 ∧ linksE id kind 0 0 L = 0 ∧ ¬ ((kind = 1 ∧ 0 < L.length) ∨ (kind = 3 ∧ L.length = 0)) := by
  unfold checkE at h
  split at h
  · cases h
  split at h
  · cases h
  split at h
  · cases h
  split at h
  · omega
  split at h
  · cases h
  refine ⟨by omega, by omega, by omega, by omega, by omega, by assumption⟩

def encNums (id kind : Int) (L : List Int) (n : Nat) : List Int := [id, kind, (L.length : Int)] ++ L ++ [(n : Int)]

theorem holds_new (w : World) (cs : List Int) (e : Nat) (W : World) (hW : W = w.alloc (.cells (cs.map (Value.int .i64)).toArray e)) : Holds W (some ⟨w.heap.size, 0, none⟩) cs := by
  subst hW
  intro i hi
  refine ⟨w.heap.size, 0, rfl, by simp, fun j hj => ?_⟩
  rw [World.cell?_alloc_at _ _ _ _ rfl]
  simp [List.getElem?_eq_getElem hj]

theorem boxed {w w1 : World} {x0 x1 x2 x3 : Value} {e : Nat} (hb : Below (w.alloc (.cells #[x0, x1, x2, x3] e)).heap.size (w.alloc (.cells #[x0, x1, x2, x3] e)) w1) :
    w1.cell? ⟨w.heap.size, 0, none⟩ = some x0 ∧ w1.cell? ⟨w.heap.size, 1, none⟩ = some x1 ∧ w1.cell? ⟨w.heap.size, 2, none⟩ = some x2 ∧ w1.cell? ⟨w.heap.size, 3, none⟩ = some x3 ∧ w.heap.size < w1.heap.size := by
  have hs := hb.size
  refine ⟨?_, ?_, ?_, ?_, by simp at hs; omega⟩ <;>
  · rw [hb.cell (by simp), World.cell?_alloc_at _ _ _ _ rfl]; rfl

theorem put_new (w : World) (o : Obj) (cs : List Int) : Holds ((w.alloc o).alloc (.cells (cs.map (Value.int .i64)).toArray 3)) (some ⟨w.heap.size + 1, 0, none⟩) cs := by
  have := holds_new (w.alloc o) cs 3 _ rfl
  simpa using this

theorem enc_conv (g cap : Nat) (id kind : Int) (L : List Int) (n : Nat) (w : World) (base : Nat)
    (ho : w.ownsRow base 5 1 (.slice (some ⟨g, 0, none⟩) (0 + [id, kind, (L.length : Int)].length + L.length + [(n : Int)].length) cap) (0 + [id, kind, (L.length : Int)].length + L.length + [(n : Int)].length)
      ([] ++ List.map (Value.int .u8) [id, kind, (L.length : Int)] ++ List.map (Value.int .u8) L ++ List.map (Value.int .u8) [(n : Int)])) :
    (convert 43 9 (.slice (some ⟨g, 0, none⟩) (0 + [id, kind, (L.length : Int)].length + L.length + [(n : Int)].length) cap)).run Try.prog w = .ok (.string (strOfNums (encNums id kind L n))) w := by
  refine run_convert_bytes_arg w 43 5 Try.underlying43 Try.underlying5 g 0 _ cap (encNums id kind L n) (by simp [encNums]; omega) (fun i hi => ?_) 9 Try.underlying9
  rw [Nat.zero_add, ho.cellAt i (by omega)]
  have e : ([] ++ List.map (Value.int .u8) [id, kind, (L.length : Int)] ++ List.map (Value.int .u8) L ++ List.map (Value.int .u8) [(n : Int)]) = (encNums id kind L n).map (Value.int .u8) := by simp [encNums]
  have hi' : i < (encNums id kind L n).length := by simp [encNums]; simp at hi; omega
  rw [e]
  simp [List.getElem?_eq_getElem hi']

set_option maxHeartbeats 400000 in
theorem encode_err (id kind : Int) (a : Option Addr) (c : Nat) (L : List Int) (t : ByteArray) (w : World)
    (h : Holds w a L) (l : L.length ≤ 9223372036854775807) (he : checkE id kind L t.size ≠ 0) :
    Calls Try.prog 10 #[.agg #[.int .i64 id, .int .i64 kind, .slice a L.length c, .string t]] w
      fun e w' => e = .returned (.tuple #[.string ByteArray.empty, .int .i64 (checkE id kind L t.size)]) ∧ Below w.heap.size w w' := by
  have h' := h.below (below_alloc w (.cells #[.int .i64 id, .int .i64 kind, .slice a L.length c, .string t] 24))
  have he' : (checkE id kind L t.size != 0) = true := by simpa using he
  go_enter Try.func10, Try.ntmps10
  go_wp2_with fail
  refine (check_any id kind a c L t _ h' l).mono ?_
  rintro e w1 ⟨rfl, hb⟩
  have hB := (below_alloc _ _).trans (hb.mono (by simp))
  go_wp2
  go_ret2
  exact ⟨rfl, hB⟩

set_option maxHeartbeats 400000 in
theorem encode_ok (id kind : Int) (a : Option Addr) (c : Nat) (L : List Int) (t : ByteArray) (w : World)
    (h : Holds w a L) (he : checkE id kind L t.size = 0) :
    Calls Try.prog 10 #[.agg #[.int .i64 id, .int .i64 kind, .slice a L.length c, .string t]] w
      fun e w' => e = .returned (.tuple #[.string (strOfNums (encNums id kind L t.size) ++ t), .int .i64 0]) ∧ Below w.heap.size w w' := by
  have h' := h.below (below_alloc w (.cells #[.int .i64 id, .int .i64 kind, .slice a L.length c, .string t] 24))
  obtain ⟨hid, hki, hL4, ht8, hlk, _⟩ := checkE_zero he
  have HE : Hid (checkE id kind L t.size = 0) := he
  have HL : Hid (linksE id kind 0 0 L = 0) := hlk
  clear he hlk
  go_enter Try.func10, Try.ntmps10
  go_wp2_with fail
  refine (check_any id kind a c L t _ h' (by omega)).mono ?_
  rintro e w1 ⟨rfl, hb⟩
  rw [HE.out]
  have hB := (below_alloc _ _).trans (hb.mono (by simp))
  obtain ⟨g0, g1, g2, g3, hlt⟩ := boxed hb
  have h1 : Holds w1 a L := h.below hB
  clear hb h' 
  go_wp2_with fail
  refine (put_any w1.heap.size (w1.heap.size + 1) 0 (.slice none 0 0) [] (some ⟨w1.heap.size + 1, 0, none⟩) 3 [id, kind, (L.length : Int)] _ ?k1 ?k2 ?k3 ?k4 ?k5 ?k6 ?k7 ?k8 (World.ownsRow_nil _ _ _ _)).mono ?_
  case k1 => exact put_new w1 _ [id, kind, (L.length : Int)]
  case k2 => intro x hx; simp at hx; rcases hx with rfl | rfl | rfl <;> omega
  case k3 => intro b off e _; simp at e; simp [Value.ownBlock]; omega
  case k4 => simp
  case k5 => omega
  case k6 => simp
  case k7 => simp [go_sem]
  case k8 => simp [go_sem]
  rintro e w2 ⟨rfl, v2, hc2, hf2, ho2, hs2, ha2⟩
  have hB2 : Below w1.heap.size w1 w2 := (below_alloc2 _ _ _).trans (hs2.below (by simp; omega) (Nat.le_refl _) (by simp [Value.ownBlock]))
  have hz2 : w1.heap.size + 2 ≤ w2.heap.size := by have := hs2.size; simp at this; omega
  have q2 : w2.cell? ⟨w.heap.size, 2, none⟩ = some (.slice a L.length c) := (hB2.cell hlt).trans g2
  have q3 : w2.cell? ⟨w.heap.size, 3, none⟩ = some (.string t) := (hB2.cell hlt).trans g3
  clear hs2 ha2
  go_wp2_with fail
  refine (put_any w1.heap.size (w1.heap.size + 1) _ v2 _ a c L _ (h1.below hB2) ?k1 ?k3 ?k4 (by omega) (by omega) hc2 hf2 ho2).mono ?_
  case k1 => intro x hx; have := linksE_mem L 0 0 HL.out x hx; omega
  case k3 => 
    intro b off e h0
    obtain ⟨b', off', e', hb', _⟩ := h1 0 h0
    rw [e] at e'
    simp at e'
    refine ⟨by omega, fun ee => ?_⟩
    have := (ho2.lt b ee.symm).1
    omega
  case k4 => simp; omega
  rintro e w3 ⟨rfl, v3, hc3, hf3, ho3, hs3, ha3⟩
  have hB3 : Below w1.heap.size w2 w3 := hs3.below (by omega) (Nat.le_refl _) (fun k hk => by have := (ho2.lt k hk).1; omega)
  have hz3 : w1.heap.size + 2 ≤ w3.heap.size := by have := hs3.size; omega
  have r3 : w3.cell? ⟨w.heap.size, 3, none⟩ = some (.string t) := (hB3.cell hlt).trans q3
  clear hs3 ha3 hc2 hf2 ho2 q2 q3 g0 g1 g2 g3
  go_wp2_with fail
  have hp3 : w1.heap.size < w3.heap.size := by omega
  refine (put_any w1.heap.size (w1.heap.size + 1) _ v3 _ (some ⟨w3.heap.size, 0, none⟩) 1 [(t.size : Int)] _ ?k1 ?k2 ?k3 ?k4 ?k5 ?k6 ?k7 ?k8 (ho3.alloc _)).mono ?_
  case k1 => exact holds_new w3 [(t.size : Int)] 3 _ rfl
  case k2 => intro x hx; simp at hx; omega
  case k3 =>
    intro b off e h0
    simp at e
    refine ⟨by omega, fun ee => ?_⟩
    have := (ho3.lt b ee.symm).2
    omega
  case k4 => simp; omega
  case k5 => omega
  case k6 => simp; omega
  case k7 => exact (World.cell?_alloc_past _ _ _ hp3).trans hc3
  case k8 => exact (World.frozen?_alloc_past _ _ _ hp3).trans hf3
  rintro e w4 ⟨rfl, v4, hc4, hf4, ho4, hs4, ha4⟩
  have hB4 : Below w1.heap.size w3 w4 := ((Below.refl _ _).alloc (by omega) _).trans (hs4.below (by simp; omega) (Nat.le_refl _) (fun k hk => by have := (ho3.lt k hk).1; omega))
  have s3 : w4.cell? ⟨w.heap.size, 3, none⟩ = some (.string t) := (hB4.cell hlt).trans r3
  have hBB : Below w.heap.size w w4 := ((hB.trans (hB2.mono (by omega))).trans (hB3.mono (by omega))).trans (hB4.mono (by omega))
  obtain ⟨g, cap, hv4, _, _⟩ := ho4.form (by simp)
  rw [hv4] at ho4 hc4
  have hconv := enc_conv g cap id kind L t.size w4 _ ho4
  clear hs4 ha4 hc3 hf3 ho3 r3 hB2 hB3 hB4 hz2 hz3 hv4 ho4 hf4
  generalize (0 + [id, kind, (L.length : Int)].length + L.length + [(t.size : Int)].length) = nn at hc4 hconv
  have hsum : (strOfNums (encNums id kind L t.size)).size + t.size ≤ 9223372036854775807 := by rw [strOfNums_size]; simp [encNums]; omega
  go_wp2
  go_ret2
  exact ⟨rfl, hBB⟩
end Go.Proofs.Ytbppoffhpmoplaa
