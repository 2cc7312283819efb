import Derived.Test.YtehmlpkapjdhkaaD1
namespace Go.Proofs.Ytehmlpkapjdhkaa
open Go.RowKit

/-- the kind of what stands at a place. -/
def kindAt (l : List Ob) (x : Int) : Int := match l[(placeI l x).toNat]? with | some o => o.kind | none => 0

def linkS (l : List Ob) (kind : Int) : Nat → List Int → Int
  | _, [] => 0
  | i, x :: xs => if placeI l x < 0 then 5 else if mayB kind i (kindAt l x) = false then 7 else linkS l kind (i + 1) xs

theorem placeI_cases (l : List Ob) (x : Int) : placeI l x = -1 ∨ ∃ i : Nat, placeI l x = i ∧ i < l.length := by
  unfold placeI
  cases h : l.findIdx? (fun o => o.id == x) with
  | none => exact Or.inl rfl
  | some i =>
    right
    rw [List.findIdx?_eq_some_iff_getElem] at h
    obtain ⟨hi, _⟩ := h
    exact ⟨i, rfl, hi⟩

theorem ls_none {l : List Ob} {kind : Int} {L : List Int} {k : Nat} {r : Int} (hlt : k < L.length) (H : r = linkS l kind k (L.drop k)) (h : placeI l L[k] < 0) : r = 5 := by
  rw [H, drop_at hlt, linkS, if_pos h]
theorem ls_kind {l : List Ob} {kind : Int} {L : List Int} {k : Nat} {r : Int} (hlt : k < L.length) (H : r = linkS l kind k (L.drop k)) (h : ¬ placeI l L[k] < 0) (h2 : mayB kind k (kindAt l L[k]) = false) : r = 7 := by
  rw [H, drop_at hlt, linkS, if_neg h, if_pos h2]
theorem ls_next {l : List Ob} {kind : Int} {L : List Int} {k : Nat} {r : Int} (hlt : k < L.length) (H : r = linkS l kind k (L.drop k)) (h : ¬ placeI l L[k] < 0) (h2 : mayB kind k (kindAt l L[k]) = true) : r = linkS l kind (k + 1) (L.drop (k + 1)) := by
  rw [H, drop_at hlt, linkS, if_neg h, if_neg (by simp [h2])]
theorem ls_end {l : List Ob} {kind : Int} {L : List Int} {k : Nat} {r : Int} (hlt : ¬ k < L.length) (H : r = linkS l kind k (L.drop k)) : r = 0 := by
  rw [H, List.drop_of_length_le (by omega)]; rfl

set_option maxHeartbeats 800000 in
theorem checkLinksS_any (a : Option Addr) (c : Nat) (l : List Ob) (x : Ob) (sa : Option Addr) (sc : Nat) (w : World) (h : HoldsS w a l) (hl : l.length ≤ 9223372036854775807) (hx : Holds w sa x.links) (hxl : x.links.length ≤ 9223372036854775807) :
    Calls Try.prog 21 #[.slice a l.length c, x.val sa sc] w fun e w' => e = .returned (.int .i64 (linkS l x.kind 0 x.links)) ∧ Below w.heap.size w w' := by
  have C := Cells4.new w (.int .i64 x.id) (.int .i64 x.kind) (.slice sa x.links.length sc) (.string x.text) 28
  have hB0 := below_alloc w (.cells #[.int .i64 x.id, .int .i64 x.kind, .slice sa x.links.length sc, .string x.text] 28)
  go_enter Try.func21, Try.ntmps21
  go_wp2
  generalize w.alloc (.cells #[.int .i64 x.id, .int .i64 x.kind, .slice sa x.links.length sc, .string x.text] 28) = W at *
  go_loopw [11] (fun i wr => ∃ k : Nat, i = .int .i64 k ∧ k ≤ x.links.length ∧ Below W.heap.size W wr ∧ Hid (linkS l x.kind 0 x.links = linkS l x.kind k (x.links.drop k))) (fun i _ => x.links.length - (intOf i).toNat)
  case atStart => exact ⟨0, rfl, Nat.zero_le _, Below.refl _ _, rfl⟩
  case round =>
    obtain ⟨k, rfl, hk, hB, H⟩ := hrel
    have hBw := hB0.trans (hB.mono hB0.size)
    by_cases hlt : k < x.links.length
    · obtain ⟨b1, o1, rfl, hb1, hc1⟩ := (hx.below hBw) k hlt
      have hk1 : wr.cell? ⟨b1, o1 + k, none⟩ = some (.int .i64 x.links[k]) := by have := hc1 k hlt; simpa [hlt] using this
      clear hc1
      go_wp2_with fail
      refine (place_any a c l x.links[k] _ (h.below hBw) hl).mono ?_
      rintro e w1 ⟨rfl, hb⟩
      have hB1 := hB.trans (hb.mono hB.size)
      have hBw1 := hBw.trans (hb.mono hBw.size)
      have q1 : w1.cell? ⟨w.heap.size, 1, none⟩ = some (.int .i64 x.kind) := (hB1.cell (p := ⟨w.heap.size, 1, none⟩) C.lt).trans C.c1
      clear hb hk1 hb1
      rcases placeI_cases l x.links[k] with hp | ⟨i, hp, hi⟩
      · have HR : Hid (linkS l x.kind 0 x.links = 5) := ls_none hlt H.out (by omega)
        rw [hp]
        clear hp
        go_wp2
        go_ret
        exact ⟨ret_int HR.out.symm, hBw1⟩
      · have HP : Hid (placeI l x.links[k] = i) := hp
        obtain ⟨b2, o2, rfl, hb2, hc2⟩ := (h.below hBw1) i hi
        obtain ⟨ta, tc, y0, y1, y2, y3, y4, y5⟩ := hc2 i hi
        have hka : kindAt l x.links[k] = l[i].kind := by unfold kindAt; rw [hp]; simp [hi]
        have HK : Hid (kindAt l x.links[k] = l[i].kind) := hka
        have hi' : (i : Int) < (l.length : Int) := by omega
        rw [hp]
        clear hp hc2 hka
        by_cases hm : mayB x.kind k l[i].kind = true
        · have HN : Hid (linkS l x.kind 0 x.links = linkS l x.kind (k + 1) (x.links.drop (k + 1))) := ls_next hlt H.out (by have := HP.out; omega) (by rw [HK.out]; exact hm)
          go_wp2
          go_quiet ((go_at_call 35; exact Calls.quiet_of_same (mayLink_any _ _ _ _)))
          go_wp2
          go_roundw
          case rel => exact ⟨k + 1, by go_num, by omega, below_drewN hB1 _, HN⟩
          case measure => simp [intOf]; omega
        · have hm' : mayB x.kind k l[i].kind = false := by simpa using hm
          have HR : Hid (linkS l x.kind 0 x.links = 7) := ls_kind hlt H.out (by have := HP.out; omega) (by rw [HK.out]; exact hm')
          clear hm
          go_wp2
          go_quiet ((go_at_call 35; exact Calls.quiet_of_same (mayLink_any _ _ _ _)))
          go_wp2
          go_ret
          exact ⟨ret_int HR.out.symm, below_drewN hBw1 _⟩
    · have HR : Hid (linkS l x.kind 0 x.links = 0) := ls_end hlt H.out
      go_wp2
      go_ret
      exact ⟨ret_int HR.out.symm, hBw⟩
end Go.Proofs.Ytehmlpkapjdhkaa
