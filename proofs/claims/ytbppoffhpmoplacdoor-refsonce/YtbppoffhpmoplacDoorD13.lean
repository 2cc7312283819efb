import Derived.Test.YtbppoffhpmoplacDoorD12
namespace Go.Proofs.YtbppoffhpmoplacDoor
open Go.RowKit

/-- the first error of objects by themselves. -/
def eachE : List Ob → Int
  | [] => 0
  | x :: m => if x.err ≠ 0 then x.err else eachE m
theorem ee_bad {m : List Ob} {k : Nat} {r : Int} (hk : k < m.length) (H : r = eachE (m.drop k)) (h : m[k].err ≠ 0) : r = m[k].err := by
  rw [H, List.drop_eq_getElem_cons hk, eachE, if_pos h]
theorem ee_next {m : List Ob} {k : Nat} {r : Int} (hk : k < m.length) (H : r = eachE (m.drop k)) (h : m[k].err = 0) : r = eachE (m.drop (k + 1)) := by
  rw [H, List.drop_eq_getElem_cons hk, eachE, if_neg (fun e => e h)]
theorem ee_end {m : List Ob} {k : Nat} {r : Int} (hk : ¬ k < m.length) (H : r = eachE (m.drop k)) : r = 0 := by
  rw [H, List.drop_of_length_le (by omega)]; rfl

set_option maxHeartbeats 800000 in
theorem each_obj (a : Option Addr) (c : Nat) (l : List Ob) (w : World) (h : HoldsS w a l) (hl : l.length ≤ 9223372036854775807) :
    Calls Tryd.prog 41 #[.slice a l.length c, .func (.func 43) #[] #[]] w fun e w' => e = .returned (.int .i64 (eachE l)) ∧ Below w.heap.size w w' := by
  go_enter Tryd.func41, Tryd.ntmps41
  go_wp2
  go_loopw [10] (fun i wr => ∃ (k : Nat), i = .int .i64 k ∧ k ≤ l.length ∧ Below w.heap.size w wr ∧ Hid (eachE l = eachE (l.drop k))) (fun i _ => l.length - (intOf i).toNat)
  case atStart => exact ⟨0, rfl, Nat.zero_le _, Below.refl _ _, rfl⟩
  case round =>
    obtain ⟨k, rfl, hk, hBr, H⟩ := hrel
    by_cases hlt : k < l.length
    · obtain ⟨b, off, rfl, hb, hc⟩ := h k hlt
      have hO := (hc k hlt).below hBr hb
      obtain ⟨sa, sc, y0, y1, y2, y3, y4, y5⟩ := hO
      clear hc
      have hA := below_alloc wr (.cells #[.int .i64 l[k].id, .int .i64 l[k].kind, .slice sa l[k].links.length sc, .string l[k].text] 63)
      go_wp2_with fail
      refine (check_any l[k].id l[k].kind sa sc l[k].links l[k].text _ (y4.below hA) y5).mono ?_
      rintro e w1 ⟨rfl, hb1⟩
      have hB1 := (hBr.trans (hA.mono hBr.size)).trans (hb1.mono (by have := hBr.size; have := hA.size; omega))
      clear hb1 hA y0 y1 y2 y3 y4 hBr
      by_cases hz : l[k].err = 0
      · have HN : Hid (eachE l = eachE (l.drop (k + 1))) := ee_next hlt H.out hz
        rw [show checkE l[k].id l[k].kind l[k].links l[k].text.size = 0 from hz]
        clear hz
        go_wp2
        go_roundw
        case rel => exact ⟨k + 1, by go_num, by omega, hB1, HN⟩
        case measure => simp [intOf]; omega
      · have HR : Hid (eachE l = l[k].err) := ee_bad hlt H.out hz
        have hz' : (checkE l[k].id l[k].kind l[k].links l[k].text.size != 0) = true := by simpa using hz
        clear hz
        go_wp2
        go_ret
        exact ⟨ret_int HR.out.symm, hB1⟩
    · have HR : Hid (eachE l = 0) := ee_end hlt H.out
      go_wp2
      go_ret
      exact ⟨ret_int HR.out.symm, hBr⟩

/-- 'take': its answer, and what stands there behind it. -/
def takeE (L : List Ob) (x : Ob) : Int := match L[(placeI L x.id).toNat]? with
  | some y => if placeI L x.id = -1 then 0 else hitE (sameO y.id y.kind y.links y.text x.id x.kind x.links x.text)
  | none => 0
def takeL (L : List Ob) (x : Ob) : List Ob := if placeI L x.id = -1 then L.take (belowN L x.id) ++ [x] ++ L.drop (belowN L x.id) else L
def takeErr : List Ob → List Ob → Int
  | _, [] => 0
  | L, x :: m => if takeE L x ≠ 0 then takeE L x else takeErr (takeL L x) m
def takeRes : List Ob → List Ob → List Ob
  | L, [] => L
  | L, x :: m => takeRes (takeL L x) m

theorem takeL_length (L : List Ob) (x : Ob) : (takeL L x).length ≤ L.length + 1 := by
  unfold takeL
  split
  · have := belowN_le L x.id
    simp only [List.length_append, List.length_take, List.length_drop, List.length_singleton]; omega
  · omega

theorem te_bad {L0 L m : List Ob} {k : Nat} (hk : k < m.length) (H : takeErr L0 m = takeErr L (m.drop k) ∧ takeRes L0 m = takeRes L (m.drop k)) (h : takeE L m[k] ≠ 0) : takeErr L0 m = takeE L m[k] := by
  rw [H.1, List.drop_eq_getElem_cons hk, takeErr, if_pos h]
theorem te_next {L0 L m : List Ob} {k : Nat} (hk : k < m.length) (H : takeErr L0 m = takeErr L (m.drop k) ∧ takeRes L0 m = takeRes L (m.drop k)) (h : takeE L m[k] = 0) : takeErr L0 m = takeErr (takeL L m[k]) (m.drop (k + 1)) ∧ takeRes L0 m = takeRes (takeL L m[k]) (m.drop (k + 1)) := by
  rw [H.1, H.2, List.drop_eq_getElem_cons hk, takeErr, takeRes, if_neg (fun e => e h)]
  exact ⟨rfl, rfl⟩
theorem te_end {L0 L m : List Ob} {k : Nat} (hk : ¬ k < m.length) (H : takeErr L0 m = takeErr L (m.drop k) ∧ takeRes L0 m = takeRes L (m.drop k)) : takeErr L0 m = 0 ∧ takeRes L0 m = L := by
  rw [H.1, H.2, List.drop_of_length_le (by omega)]; exact ⟨rfl, rfl⟩

end Go.Proofs.YtbppoffhpmoplacDoor
