import Derived.Test.YtehmlpkapjdhkaaD12
namespace Go.Proofs.Ytehmlpkapjdhkaa
open Go.RowKit

/-- the first error of objects by themselves. -/
def eachE : List Ob → Int
  | [] => 0
  | x :: m => if x.err ≠ 0 then x.err else eachE m
theorem ee_bad {m : List Ob} {k : Nat} {r : Int} (hk : k < m.length) (H : r = eachE (m.drop k)) (h : m[k].err ≠ 0) : r = m[k].err := by
  rw [H, List.drop_eq_getElem_cons hk, eachE, if_pos h]
theorem ee_next {m : List Ob} {k : Nat} {r : Int} (hk : k < m.length) (H : r = eachE (m.drop k)) (h : m[k].err = 0) : r = eachE (m.drop (k + 1)) := by
  rw [H, List.drop_eq_getElem_cons hk, eachE, if_neg (fun e => e h)]
theorem ee_end {m : List Ob} {k : Nat} {r : Int} (hk : ¬ k < m.length) (H : r = eachE (m.drop k)) : r = 0 := by
  rw [H, List.drop_of_length_le (by omega)]; rfl

set_option maxHeartbeats 800000 in
theorem each_obj (a : Option Addr) (c : Nat) (l : List Ob) (w : World) (h : HoldsS w a l) (hl : l.length ≤ 9223372036854775807) :
    Calls Try.prog 18 #[.slice a l.length c, .func (.func 20) #[] #[]] w fun e w' => e = .returned (.int .i64 (eachE l)) ∧ Below w.heap.size w w' := by
  go_enter Try.func18, Try.ntmps18
  go_wp2
  go_loopw [10] (fun i wr => ∃ (k : Nat), i = .int .i64 k ∧ k ≤ l.length ∧ Below w.heap.size w wr ∧ Hid (eachE l = eachE (l.drop k))) (fun i _ => l.length - (intOf i).toNat)
  case atStart => exact ⟨0, rfl, Nat.zero_le _, Below.refl _ _, rfl⟩
  case round =>
    obtain ⟨k, rfl, hk, hBr, H⟩ := hrel
    by_cases hlt : k < l.length
    · obtain ⟨b, off, rfl, hb, hc⟩ := h k hlt
      have hO := (hc k hlt).below hBr hb
      obtain ⟨sa, sc, y0, y1, y2, y3, y4, y5⟩ := hO
      clear hc
      have hA := below_alloc wr (.cells #[.int .i64 l[k].id, .int .i64 l[k].kind, .slice sa l[k].links.length sc, .string l[k].text] 28)
      go_wp2_with fail
      refine (check_any l[k].id l[k].kind sa sc l[k].links l[k].text _ (y4.below hA) y5).mono ?_
      rintro e w1 ⟨rfl, hb1⟩
      have hB1 := (hBr.trans (hA.mono hBr.size)).trans (hb1.mono (by have := hBr.size; have := hA.size; omega))
      clear hb1 hA y0 y1 y2 y3 y4 hBr
      by_cases hz : l[k].err = 0
      · have HN : Hid (eachE l = eachE (l.drop (k + 1))) := ee_next hlt H.out hz
        rw [show checkE l[k].id l[k].kind l[k].links l[k].text.size = 0 from hz]
        clear hz
        go_wp2
        go_roundw
        case rel => exact ⟨k + 1, by go_num, by omega, hB1, HN⟩
        case measure => simp [intOf]; omega
      · have HR : Hid (eachE l = l[k].err) := ee_bad hlt H.out hz
        have hz' : (checkE l[k].id l[k].kind l[k].links l[k].text.size != 0) = true := by simpa using hz
        clear hz
        go_wp2
        go_ret
        exact ⟨ret_int HR.out.symm, hB1⟩
    · have HR : Hid (eachE l = 0) := ee_end hlt H.out
      go_wp2
      go_ret
      exact ⟨ret_int HR.out.symm, hBr⟩

/-- 'take': its answer, and what stands there behind it. -/
def takeE (L : List Ob) (x : Ob) : Int := match L[(placeI L x.id).toNat]? with
  | some y => if placeI L x.id = -1 then 0 else hitE (sameO y.id y.kind y.links y.text x.id x.kind x.links x.text)
  | none => 0
def takeL (L : List Ob) (x : Ob) : List Ob := if placeI L x.id = -1 then L.take (belowN L x.id) ++ [x] ++ L.drop (belowN L x.id) else L
def takeErr : List Ob → List Ob → Int
  | _, [] => 0
  | L, x :: m => if takeE L x ≠ 0 then takeE L x else takeErr (takeL L x) m
def takeRes : List Ob → List Ob → List Ob
  | L, [] => L
  | L, x :: m => takeRes (takeL L x) m

theorem takeL_length (L : List Ob) (x : Ob) : (takeL L x).length ≤ L.length + 1 := by
  unfold takeL
  split
  · have := belowN_le L x.id
    simp only [List.length_append, List.length_take, List.length_drop, List.length_singleton]; omega
  · omega

theorem take_any (z p : Nat) (v : Value) (rs : List Pl) (L : List Ob) (hL : rs.map Pl.x = L) (x : Ob) (sa : Option Addr) (sc : Nat) (w : World) (SH : Shelf w z p v rs) (hn : rs.length ≤ 1000) (hx : Holds w sa x.links) (hxl : x.links.length ≤ 1000) :
    Calls Try.prog 26 #[.pointer (some ⟨p, 0, none⟩), x.val sa sc] w fun e w' => ∃ v' rs', e = .returned (.int .i64 (takeE L x)) ∧ rs'.map Pl.x = takeL L x ∧ Shelf w' z p v' rs' ∧ Below z w w' := by
  rcases placeI_cases L x.id with hp | ⟨i, hp, hi⟩
  · refine (take_new z p v rs L hL x sa sc w SH hn hx hxl hp).mono ?_
    rintro e w' ⟨v', rs', rfl, h1, h2, h3⟩
    refine ⟨v', rs', ret_int ?_, by rw [takeL, if_pos hp]; exact h1, h2, h3⟩
    unfold takeE
    split
    · rw [if_pos hp]
    · rfl
  · refine (take_hit z p v rs L hL x sa sc w SH hn hx i hp hi).mono ?_
    rintro e w' ⟨rfl, ⟨v', h2⟩, h3⟩
    have hne : ¬ placeI L x.id = -1 := by omega
    refine ⟨v', rs, ret_int ?_, by rw [takeL, if_neg hne]; exact hL, h2, h3.mono (Nat.le_trans SH.zp (Nat.le_of_lt SH.lt))⟩
    have ht : (placeI L x.id).toNat = i := by omega
    unfold takeE
    rw [ht, List.getElem?_eq_getElem hi]
    simp only
    rw [if_neg hne]

theorem te_bad {L0 L m : List Ob} {k : Nat} (hk : k < m.length) (H : takeErr L0 m = takeErr L (m.drop k) ∧ takeRes L0 m = takeRes L (m.drop k)) (h : takeE L m[k] ≠ 0) : takeErr L0 m = takeE L m[k] := by
  rw [H.1, List.drop_eq_getElem_cons hk, takeErr, if_pos h]
theorem te_next {L0 L m : List Ob} {k : Nat} (hk : k < m.length) (H : takeErr L0 m = takeErr L (m.drop k) ∧ takeRes L0 m = takeRes L (m.drop k)) (h : takeE L m[k] = 0) : takeErr L0 m = takeErr (takeL L m[k]) (m.drop (k + 1)) ∧ takeRes L0 m = takeRes (takeL L m[k]) (m.drop (k + 1)) := by
  rw [H.1, H.2, List.drop_eq_getElem_cons hk, takeErr, takeRes, if_neg (fun e => e h)]
  exact ⟨rfl, rfl⟩
theorem te_end {L0 L m : List Ob} {k : Nat} (hk : ¬ k < m.length) (H : takeErr L0 m = takeErr L (m.drop k) ∧ takeRes L0 m = takeRes L (m.drop k)) : takeErr L0 m = 0 ∧ takeRes L0 m = L := by
  rw [H.1, H.2, List.drop_of_length_le (by omega)]; exact ⟨rfl, rfl⟩

set_option maxHeartbeats 800000 in
theorem each_take (a : Option Addr) (c : Nat) (l L0 : List Ob) (z p : Nat) (v0 : Value) (rs0 : List Pl) (w0 w : World) (h : HoldsS w0 a l) (hB : Below w0.heap.size w0 w) (hp : w0.heap.size ≤ z) (S0 : Shelf w z p v0 rs0) (hL0 : rs0.map Pl.x = L0)
    (hl : L0.length + l.length ≤ 1000) (hx : ∀ x ∈ l, x.links.length ≤ 1000) :
    Calls Try.prog 18 #[.slice a l.length c, .func (.func 26) #[.pointer (some ⟨p, 0, none⟩)] #[]] w fun e w' => e = .returned (.int .i64 (takeErr L0 l)) ∧ (takeErr L0 l = 0 → ∃ v' rs', rs'.map Pl.x = takeRes L0 l ∧ Shelf w' z p v' rs') ∧ Below w0.heap.size w0 w' := by
  have hl' : l.length ≤ 9223372036854775807 := by omega
  go_enter Try.func18, Try.ntmps18
  go_wp2
  go_loopw [10] (fun i wr => ∃ (k : Nat) (v : Value) (rs : List Pl) (L : List Ob), i = .int .i64 k ∧ k ≤ l.length ∧ Hid (rs.map Pl.x = L) ∧ L.length ≤ L0.length + k ∧ Shelf wr z p v rs ∧ Below w0.heap.size w0 wr ∧ Hid (takeErr L0 l = takeErr L (l.drop k) ∧ takeRes L0 l = takeRes L (l.drop k))) (fun i _ => l.length - (intOf i).toNat)
  case atStart => exact ⟨0, v0, rs0, L0, rfl, Nat.zero_le _, hL0, by omega, S0, hB, rfl, rfl⟩
  case round =>
    clear S0 hL0
    obtain ⟨k, v, rs, L, rfl, hk, HL, hLk, SH, hBr, H⟩ := hrel
    by_cases hlt : k < l.length
    · obtain ⟨b, off, rfl, hb, hc⟩ := h k hlt
      have hO := (hc k hlt).below hBr hb
      obtain ⟨sa, sc, y0, y1, y2, y3, y4, y5⟩ := hO
      clear hc
      have hA := below_alloc wr (.cells #[.int .i64 l[k].id, .int .i64 l[k].kind, .slice sa l[k].links.length sc, .string l[k].text] 28)
      have hxl := hx l[k] (List.getElem_mem hlt)
      have hrl : rs.length ≤ 1000 := by have := congrArg List.length HL.out; rw [List.length_map] at this; omega
      go_wp2_with fail
      refine (take_any z p v rs L HL.out l[k] sa sc _ (SH.below hA) hrl (y4.below hA) hxl).mono ?_
      rintro e w1 ⟨v', rs', rfl, hL1, S1, hb1⟩
      have hB1 := (hBr.trans (hA.mono hBr.size)).trans (hb1.mono hp)
      have HL1 : Hid (rs'.map Pl.x = takeL L l[k]) := hL1
      have HLl : Hid ((takeL L l[k]).length ≤ L0.length + (k + 1)) := by have := takeL_length L l[k]; unfold Hid; omega
      clear hb1 hA y0 y1 y2 y3 y4 hBr SH hL1 hrl
      by_cases hz : takeE L l[k] = 0
      · have HN : Hid (_ ∧ _) := te_next hlt H.out hz
        rw [hz]
        clear hz
        go_wp2
        go_roundw
        case rel => exact ⟨k + 1, v', rs', _, by go_num, by omega, HL1, HLl.out, S1, hB1, HN⟩
        case measure => simp [intOf]; omega
      · have HR : Hid (takeErr L0 l = takeE L l[k]) := te_bad hlt H.out hz
        have HZ : Hid (¬ takeE L l[k] = 0) := hz
        have hz' : (takeE L l[k] != 0) = true := by simpa using hz
        clear hz
        go_wp2
        go_ret
        exact ⟨ret_int HR.out.symm, fun e => absurd (HR.out.symm.trans e) HZ.out, hB1⟩
    · have HR : Hid (takeErr L0 l = 0 ∧ takeRes L0 l = L) := te_end hlt H.out
      go_wp2
      go_ret
      exact ⟨ret_int HR.out.1.symm, fun _ => ⟨v, rs, HL.out.trans HR.out.2.symm, SH⟩, hBr⟩
end Go.Proofs.Ytehmlpkapjdhkaa
