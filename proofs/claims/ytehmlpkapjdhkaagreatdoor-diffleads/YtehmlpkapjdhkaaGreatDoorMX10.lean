import Derived.Test.YtehmlpkapjdhkaaGreatDoorMX8
import Derived.Test.YtehmlpkapjdhkaaGreatDoorMX6
import Derived.Test.YtehmlpkapjdhkaaGreatDoorML1
import Derived.Test.YtehmlpkapjdhkaaGreatDoorMX2
namespace Go.Proofs.YtehmlpkapjdhkaaGreatDoor
open Go.RowKit
set_option maxRecDepth 100000

abbrev nA : ByteArray := { data := #[97] }
def lstR : List Rf := [⟨nA, 9⟩, ⟨nMain, 5⟩]
def nsC : List ByteArray := [nA, nMain, nXY]
def leadC : List Up := [⟨nA, 9, 0⟩, ⟨nMain, 5, 3⟩, ⟨nXY, 0, 5⟩]
theorem names_one {l m : List Rf} {a b : List ByteArray} (h1 : NamesOf l m a) (h2 : NamesOf l m b) : a = b := by
  have nd : ∀ {x : List ByteArray}, x.Pairwise ltN → x.Nodup := fun h => List.Pairwise.imp (fun {a b} q e => by rw [e] at q; exact ltN.irrefl _ q) h
  have hp : a.Perm b := (List.perm_ext_iff_of_nodup (nd h1.1) (nd h2.1)).2 fun n => (h1.2 n).trans (h2.2 n).symm
  exact hp.eq_of_pairwise (fun a b _ _ q1 q2 => absurd q2 q1.asymm) h1.1 h2.1
theorem nsC_of : NamesOf namesL lstR nsC := by
  constructor
  · unfold nsC ltN
    decide +kernel
  · intro n
    simp only [nsC, namesL, lstR, List.mem_cons, List.not_mem_nil, or_false, List.cons_append, List.nil_append]
    constructor
    · rintro (rfl | rfl | rfl)
      · exact ⟨_, .inr (.inr (.inl rfl)), rfl⟩
      · exact ⟨_, .inl rfl, rfl⟩
      · exact ⟨_, .inr (.inl rfl), rfl⟩
    · rintro ⟨r, (rfl | rfl | rfl | rfl), rfl⟩
      · exact .inr (.inl rfl)
      · exact .inr (.inr rfl)
      · exact .inl rfl
      · exact .inr (.inl rfl)
theorem beg_lists : checkL namesL lstR = 0 := by decide +kernel
theorem beg_lead : leadL namesL lstR nsC = leadC := by kernel_rfl
theorem beg_diff : diffE shelfL (shelfL.take 3) = 0 := by decide +kernel
theorem beg_miss : missL shelfL (shelfL.take 3) = shelfL.drop 3 := by kernel_rfl
theorem HoldsS.take {w : World} {a : Option Addr} {l : List Ob} (h : HoldsS w a l) (n : Nat) : HoldsS w a (l.take n) := by
  intro i hi
  rw [List.length_take] at hi
  obtain ⟨b, off, e, hb, hc⟩ := h i (by omega)
  refine ⟨b, off, e, hb, fun j hj => ?_⟩
  rw [List.length_take] at hj
  rw [List.getElem_take]
  exact hc j (by omega)

set_option maxHeartbeats 4000000 in
theorem diffBegun_any (w : World) (hg : Glob w) : Calls Tryz.prog 20 #[] w fun e w' => e = .returned (.bool true) ∧ Below w.heap.size w w' := by
  go_enter Tryz.func20, Tryz.ntmps20
  go_wp2_with fail
  refine (shelf_holds w).mono ?_
  rintro e w1 ⟨g1, rfl, hb1, S1⟩
  go_wp2_with fail
  refine (shelf_holds w1).mono ?_
  rintro e w2 ⟨g2, rfl, hb2, S2⟩
  have hB2 := hb1.trans (hb2.mono hb1.size)
  have S1' := S1.below hb2
  have hc : Calls Tryz.prog 35 #[.slice (some ⟨g1, 0, none⟩) 5 5, .slice (some ⟨g2, 0, none⟩) 3 5] w2 (DiffPost shelfL (shelfL.take 3) w2) := diffObjects_any (some ⟨g1, 0, none⟩) 5 shelfL (some ⟨g2, 0, none⟩) 5 (shelfL.take 3) w2 S1' (by decide) (S2.take 3) (by decide)
  clear hb1 hb2 S1 S1' S2
  go_wp2_with fail
  refine hc.mono ?_
  clear hc
  rintro e w3 ⟨hb3, ⟨hne, -⟩ | ⟨-, v, rs, rfl, hrs, O3⟩⟩
  · exact absurd beg_diff hne
  rw [beg_miss] at hrs
  obtain ⟨b0, d0, rfl⟩ := objs_slice hrs O3
  have D3 : HoldsS w3 b0 (shelfL.drop 3) := Objs.list hrs O3
  have hB3 := hB2.trans (hb3.mono hB2.size)
  clear hb3 O3 hrs hB2
  go_wp2_with fail
  refine (names_any w3).mono ?_
  rintro e w4 ⟨g3, rfl, R3, hb4⟩
  have D4 := D3.below hb4
  have hB4 := hB3.trans (hb4.mono hB3.size)
  have hA := below_alloc w4 (.cells #[.string nA, .int .i64 9, .string nMain, .int .i64 5] 65)
  have kA := heap_alloc_new w4 (.cells #[.string nA, .int .i64 9, .string nMain, .int .i64 5] 65)
  have cA : ∀ i v, (#[.string nA, .int .i64 9, .string nMain, .int .i64 5] : Array Value)[i]? = some v → (w4.alloc (.cells #[.string nA, .int .i64 9, .string nMain, .int .i64 5] 65)).cell? ⟨w4.heap.size, i, none⟩ = some v := fun i v h => by rw [cell_of_row _ _ _ _ _ _ kA]; exact h
  have RA : HoldsR (w4.alloc (.cells #[.string nA, .int .i64 9, .string nMain, .int .i64 5] 65)) (some ⟨w4.heap.size, 0, none⟩) lstR := by
    intro i hi
    refine ⟨w4.heap.size, 0, rfl, heap_lt kA, fun j hj => ?_⟩
    have hj' : j = 0 ∨ j = 1 := by simp [lstR] at hj; omega
    rcases hj' with rfl | rfl
    · exact ⟨cA 0 _ rfl, cA 1 _ rfl⟩
    · exact ⟨cA 2 _ rfl, cA 3 _ rfl⟩
  have D5 := D4.below hA
  have hB5 := hB4.trans (hA.mono hB4.size)
  have hc : Calls Tryz.prog 19 #[.slice (some ⟨g3, 0, none⟩) 2 2, .slice (some ⟨w4.heap.size, 0, none⟩) 2 2] _ (RfPost namesL lstR _) := drefs_any (some ⟨g3, 0, none⟩) 2 namesL (some ⟨w4.heap.size, 0, none⟩) 2 lstR _ (hg.below hB5) (R3.below hA) RA
  clear hb4 hA kA cA RA R3 D3 D4 hB3 hB4
  go_wp2_with fail
  refine hc.mono ?_
  clear hc
  rintro e w5 ⟨hb5, ⟨hne, -⟩ | ⟨-, ns, a5, c5, rfl, hN, hU, -, -⟩⟩
  · exact absurd beg_lists hne
  obtain rfl := names_one hN nsC_of
  rw [beg_lead] at hU ⊢
  have D6 := D5.below hb5
  have hB6 := hB5.trans (hb5.mono hB5.size)
  clear hN hb5 hB5 D5
  generalize w4.alloc (.cells #[.string nA, .int .i64 9, .string nMain, .int .i64 5] 65) = wq at *
  go_wp2_with fail
  refine (shelf_holds w5).mono ?_
  rintro e w6 ⟨g4, rfl, hb6, S6⟩
  have D7 := D6.below hb6
  have U7 := hU.below hb6
  have hB7 := hB6.trans (hb6.mono hB6.size)
  have hc : Calls Tryz.prog 34 #[.slice b0 2 d0, .slice (some ⟨g4, 12, none⟩) 2 2] w6 _ := sameStore_any b0 d0 (shelfL.drop 3) (some ⟨g4, 12, none⟩) 2 (shelfL.drop 3) w6 D7 (S6.part 3 2) (by decide)
  clear hb6 hB6 D6 hU D7 S6
  go_wp2_with fail
  refine hc.mono ?_
  clear hc
  rintro e w7 ⟨r, rfl, hr, hb7⟩
  obtain rfl : r = true := hr.2 (by first | trivial | rfl)
  have U8 := U7.below hb7
  have hB8 := hB7.trans (hb7.mono hB7.size)
  have hA := below_alloc w7 (.cells #[.string nA, .int .i64 9, .int .i64 0, .string nMain, .int .i64 5, .int .i64 3, .string nXY, .int .i64 0, .int .i64 5] 40)
  have kA := heap_alloc_new w7 (.cells #[.string nA, .int .i64 9, .int .i64 0, .string nMain, .int .i64 5, .int .i64 3, .string nXY, .int .i64 0, .int .i64 5] 40)
  have cA : ∀ i v, (#[.string nA, .int .i64 9, .int .i64 0, .string nMain, .int .i64 5, .int .i64 3, .string nXY, .int .i64 0, .int .i64 5] : Array Value)[i]? = some v → (w7.alloc (.cells #[.string nA, .int .i64 9, .int .i64 0, .string nMain, .int .i64 5, .int .i64 3, .string nXY, .int .i64 0, .int .i64 5] 40)).cell? ⟨w7.heap.size, i, none⟩ = some v := fun i v h => by rw [cell_of_row _ _ _ _ _ _ kA]; exact h
  have UA : HoldsU (w7.alloc (.cells #[.string nA, .int .i64 9, .int .i64 0, .string nMain, .int .i64 5, .int .i64 3, .string nXY, .int .i64 0, .int .i64 5] 40)) (some ⟨w7.heap.size, 0, none⟩) leadC := by
    intro i hi
    refine ⟨w7.heap.size, 0, rfl, heap_lt kA, fun j hj => ?_⟩
    have hj' : j = 0 ∨ j = 1 ∨ j = 2 := by simp [leadC] at hj; omega
    rcases hj' with rfl | rfl | rfl
    · exact ⟨cA 0 _ rfl, cA 1 _ rfl, cA 2 _ rfl⟩
    · exact ⟨cA 3 _ rfl, cA 4 _ rfl, cA 5 _ rfl⟩
    · exact ⟨cA 6 _ rfl, cA 7 _ rfl, cA 8 _ rfl⟩
  have hB9 := hB8.trans (hA.mono hB8.size)
  have hc : Calls Tryz.prog 63 #[.slice a5 3 c5, .slice (some ⟨w7.heap.size, 0, none⟩) 3 3] _ _ := sameUps_any a5 c5 leadC (some ⟨w7.heap.size, 0, none⟩) 3 leadC _ (U8.below hA) UA (by decide)
  clear hb7 hB7 hB8 U7 U8 hr hA kA cA UA
  go_wp2_with fail
  refine hc.mono ?_
  clear hc
  rintro e w8 ⟨r, rfl, hr, hb8⟩
  obtain rfl : r = true := hr.2 (by first | trivial | rfl)
  have hB10 := hB9.trans (hb8.mono hB9.size)
  clear hb8 hB9 hr
  go_wp2
  go_ret
  exact ⟨rfl, hB10⟩
end Go.Proofs.YtehmlpkapjdhkaaGreatDoor
