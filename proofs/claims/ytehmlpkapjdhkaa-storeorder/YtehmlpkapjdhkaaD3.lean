import Derived.Test.YtehmlpkapjdhkaaD2
namespace Go.Proofs.Ytehmlpkapjdhkaa
open Go.RowKit

abbrev Ob.err (x : Ob) : Int := checkE x.id x.kind x.links x.text.size

def chk1 (l : List Ob) (last : Int) (x : Ob) : Int := if x.err ≠ 0 then x.err else if x.id ≤ last then 4 else linkS l x.kind 0 x.links
/-- what 'last' is behind an object. -/
def newLast (x : Ob) (last : Int) : Int := if x.err = 0 ∧ last < x.id then x.id else last
def eachC (l : List Ob) : Int → List Ob → Int
  | _, [] => 0
  | last, x :: xs => if chk1 l last x ≠ 0 then chk1 l last x else eachC l x.id xs
/-- what Check of a store answers. -/
def checkS (l : List Ob) : Int := if 40 < l.length then 2 else eachC l 0 l

theorem Stays.cell {p : Nat} {w w' : World} (h : Stays p none w w') {q o : Nat} (hq : q < w.heap.size) (hne : q ≠ p) : w'.cell? ⟨q, o, none⟩ = w.cell? ⟨q, o, none⟩ :=
  World.cell?_of_block (a := ⟨q, o, none⟩) (h.block q hq hne (by simp))
theorem Stays.of_below {p : Nat} {w w' : World} (h : Below w.heap.size w w') : Stays p none w w' := ⟨h.os, h.tape, h.output, h.size, fun k hk _ _ => h.block k hk⟩

set_option maxHeartbeats 800000 in
theorem check1_any (a : Option Addr) (c : Nat) (l : List Ob) (x : Ob) (sa : Option Addr) (sc : Nat) (last : Int) (p q : Nat) (w0 w : World)
    (h : HoldsS w0 a l) (hl : l.length ≤ 9223372036854775807) (hx : Holds w0 sa x.links) (hxl : x.links.length ≤ 9223372036854775807) (hB : Below w0.heap.size w0 w)
    (hp0 : w0.heap.size ≤ p) (hp : p < w.heap.size) (hpc : w.cell? ⟨p, 0, none⟩ = some (.int .i64 last)) (hpf : w.frozen? ⟨p, 0, none⟩ = false)
    (hq : q < w.heap.size) (hqp : q ≠ p) (hqc : w.cell? ⟨q, 0, none⟩ = some (.slice a l.length c)) :
    Calls Try.prog 19 #[x.val sa sc, .pointer (some ⟨p, 0, none⟩), .pointer (some ⟨q, 0, none⟩)] w fun e w' => e = .returned (.int .i64 (chk1 l last x)) ∧ Stays p none w w' ∧ w'.frozen? ⟨p, 0, none⟩ = false ∧
      w'.cell? ⟨p, 0, none⟩ = some (.int .i64 (newLast x last)) := by
  have C := Cells4.new w (.int .i64 x.id) (.int .i64 x.kind) (.slice sa x.links.length sc) (.string x.text) 28
  have hB0 := below_alloc w (.cells #[.int .i64 x.id, .int .i64 x.kind, .slice sa x.links.length sc, .string x.text] 28)
  go_enter Try.func19, Try.ntmps19
  go_wp2_with fail
  generalize w.alloc (.cells #[.int .i64 x.id, .int .i64 x.kind, .slice sa x.links.length sc, .string x.text] 28) = W at *
  refine (check_any x.id x.kind sa sc x.links x.text _ (hx.below (hB.trans (hB0.mono hB.size))) hxl).mono ?_
  rintro e w1 ⟨rfl, hb1⟩
  have hS1 : Stays p none w w1 := Stays.of_below (hB0.trans (hb1.mono hB0.size))
  have hp1 : w1.cell? ⟨p, 0, none⟩ = some (.int .i64 last) := (hb1.cell (p := ⟨p, 0, none⟩) (Nat.lt_of_lt_of_le hp hB0.size)).trans ((hB0.cell (p := ⟨p, 0, none⟩) hp).trans hpc)
  have hf1 : w1.frozen? ⟨p, 0, none⟩ = false := (hb1.frozen (p := ⟨p, 0, none⟩) (Nat.lt_of_lt_of_le hp hB0.size)).trans ((hB0.frozen (p := ⟨p, 0, none⟩) hp).trans hpf)
  have hq1 : w1.cell? ⟨q, 0, none⟩ = some (.slice a l.length c) := (hS1.cell hq hqp).trans hqc
  have C1 := C.below hb1 C.lt
  have hBw1 : Below w0.heap.size w0 w1 := hB.trans ((hB0.trans (hb1.mono hB0.size)).mono hB.size)
  have hpl1 : p < w1.heap.size := Nat.lt_of_lt_of_le hp hS1.size
  clear hb1 hB0 C
  by_cases he : x.err = 0
  · rw [show checkE x.id x.kind x.links x.text.size = 0 from he]
    obtain ⟨c0, c1, c2, c3, _, _, _, _, cl⟩ := C1
    have HE : Hid (x.err = 0) := he
    clear he
    by_cases hle : x.id ≤ last
    · have HR : Hid (chk1 l last x = 4 ∧ (newLast x last) = last) := ⟨by rw [chk1, if_neg (by rw [HE.out]; simp), if_pos hle], by rw [newLast, if_neg (by omega)]⟩
      go_wp2
      go_ret
      exact ⟨ret_int HR.out.1.symm, hS1, hf1, by rw [HR.out.2]; exact hp1⟩
    · have hlt : last < x.id := by omega
      have HR : Hid (chk1 l last x = linkS l x.kind 0 x.links ∧ (newLast x last) = x.id) := ⟨by rw [chk1, if_neg (by rw [HE.out]; simp), if_neg hle], by rw [newLast, if_pos ⟨HE.out, hlt⟩]⟩
      have hS2 := hS1.setCell 0 (.int .i64 x.id)
      have hB2 : Below w0.heap.size w0 (w1.setCell ⟨p, 0, none⟩ (.int .i64 x.id)) := hBw1.setCell (p := ⟨p, 0, none⟩) hp0 _
      have hc2 : (w1.setCell ⟨p, 0, none⟩ (.int .i64 x.id)).cell? ⟨p, 0, none⟩ = some (.int .i64 x.id) := World.cell?_setCell_same _ _ _ hp1
      have hf2 : (w1.setCell ⟨p, 0, none⟩ (.int .i64 x.id)).frozen? ⟨p, 0, none⟩ = false := (World.frozen?_setCell _ _ _ _).trans hf1
      have hne1 : ¬ w.heap.size = p := by omega
      have hne2 : ¬ p = w.heap.size := by omega
      have hne3 : ¬ q = p := hqp
      have hne4 : ¬ p = q := fun e => hqp e.symm
      go_wp2_with fail
      refine (checkLinksS_any a c l x sa sc _ (h.below hB2) hl (hx.below hB2) hxl).mono ?_
      rintro e w2 ⟨rfl, hb2⟩
      have hpl2 : p < (w1.setCell ⟨p, 0, none⟩ (.int .i64 x.id)).heap.size := by simpa [World.setCell] using hpl1
      have hS3 := hS2.trans (Stays.of_below hb2)
      have hc3 := (hb2.cell (p := ⟨p, 0, none⟩) hpl2).trans hc2
      have hf3 := (hb2.frozen (p := ⟨p, 0, none⟩) hpl2).trans hf2
      clear hb2 hc2 hf2 hS2 hB2 hpl2 hpc hpf hp1 hf1
      go_wp2
      go_ret
      exact ⟨ret_int HR.out.1.symm, hS3, hf3, by rw [HR.out.2]; exact hc3⟩
  · have he' : (checkE x.id x.kind x.links x.text.size != 0) = true := by simpa using he
    have HR : Hid (chk1 l last x = x.err ∧ (newLast x last) = last) := ⟨by rw [chk1, if_pos he], by rw [newLast, if_neg (fun e => he e.1)]⟩
    go_wp2
    go_ret
    exact ⟨ret_int HR.out.1.symm, hS1, hf1, by rw [HR.out.2]; exact hp1⟩

theorem ec_bad {l : List Ob} {m : List Ob} {k : Nat} {last r : Int} (hk : k < m.length) (H : r = eachC l last (m.drop k)) (h : chk1 l last m[k] ≠ 0) : r = chk1 l last m[k] := by
  rw [H, List.drop_eq_getElem_cons hk, eachC, if_pos h]
theorem chk1_zero {l : List Ob} {last : Int} {x : Ob} (h : chk1 l last x = 0) : x.err = 0 ∧ last < x.id ∧ linkS l x.kind 0 x.links = 0 := by
  unfold chk1 at h
  split at h
  · omega
  · split at h
    · omega
    · exact ⟨by omega, by omega, h⟩
theorem ec_next {l : List Ob} {m : List Ob} {k : Nat} {last r : Int} (hk : k < m.length) (H : r = eachC l last (m.drop k)) (h : chk1 l last m[k] = 0) : r = eachC l (newLast m[k] last) (m.drop (k + 1)) := by
  obtain ⟨h1, h2, _⟩ := chk1_zero h
  rw [H, List.drop_eq_getElem_cons hk, eachC, if_neg (by omega), newLast, if_pos ⟨h1, h2⟩]
theorem ec_end {l : List Ob} {m : List Ob} {k : Nat} {last r : Int} (hk : ¬ k < m.length) (H : r = eachC l last (m.drop k)) : r = 0 := by
  rw [H, List.drop_of_length_le (by omega)]; rfl

set_option maxHeartbeats 800000 in
theorem each_check (a : Option Addr) (c : Nat) (l : List Ob) (p q : Nat) (w0 w : World)
    (h : HoldsS w0 a l) (hl : l.length ≤ 9223372036854775807) (hB : Below w0.heap.size w0 w)
    (hp0 : w0.heap.size ≤ p) (hp : p < w.heap.size) (hpc : w.cell? ⟨p, 0, none⟩ = some (.int .i64 0)) (hpf : w.frozen? ⟨p, 0, none⟩ = false)
    (hq : q < w.heap.size) (hqp : q ≠ p) (hqc : w.cell? ⟨q, 0, none⟩ = some (.slice a l.length c)) :
    Calls Try.prog 18 #[.slice a l.length c, .func (.func 19) #[] #[.pointer (some ⟨p, 0, none⟩), .pointer (some ⟨q, 0, none⟩)]] w fun e w' => e = .returned (.int .i64 (eachC l 0 l)) ∧ Below w0.heap.size w0 w' := by
  go_enter Try.func18, Try.ntmps18
  go_wp2
  go_loopw [10] (fun i wr => ∃ (k : Nat) (last : Int), i = .int .i64 k ∧ k ≤ l.length ∧ Stays p none w wr ∧ wr.cell? ⟨p, 0, none⟩ = some (.int .i64 last) ∧ wr.frozen? ⟨p, 0, none⟩ = false ∧ Hid (eachC l 0 l = eachC l last (l.drop k))) (fun i _ => l.length - (intOf i).toNat)
  case atStart => exact ⟨0, 0, rfl, Nat.zero_le _, Stays.refl _ _ _, hpc, hpf, rfl⟩
  case round =>
    obtain ⟨k, last, rfl, hk, hS, hcl, hfl, H⟩ := hrel
    have hBr : Below w0.heap.size w0 wr := hB.trans (hS.below hB.size hp0 (by simp))
    have hqr : wr.cell? ⟨q, 0, none⟩ = some (.slice a l.length c) := (hS.cell hq hqp).trans hqc
    by_cases hlt : k < l.length
    · obtain ⟨b, off, rfl, hb, hc⟩ := h k hlt
      have hO := hc k hlt
      obtain ⟨sa, sc, x0, x1, x2, x3, x4, x5⟩ := hO
      have y0 := (hBr.cell (p := ⟨b, off + k * 4, none⟩) hb).trans x0
      have y1 := (hBr.cell (p := ⟨b, off + k * 4 + 1, none⟩) hb).trans x1
      have y2 := (hBr.cell (p := ⟨b, off + k * 4 + 2, none⟩) hb).trans x2
      have y3 := (hBr.cell (p := ⟨b, off + k * 4 + 3, none⟩) hb).trans x3
      clear hc x0 x1 x2 x3
      have hA := below_alloc wr (.cells #[.int .i64 l[k].id, .int .i64 l[k].kind, .slice sa l[k].links.length sc, .string l[k].text] 28)
      go_wp2_with fail
      refine (check1_any _ c l l[k] sa sc last p q w0 _ h hl x4 x5 (hBr.trans (hA.mono hBr.size)) hp0 ?k1 ?k2 ?k3 ?k4 hqp ?k5).mono ?_
      case k1 => exact Nat.lt_of_lt_of_le hp (Nat.le_trans hS.size hA.size)
      case k2 => exact (hA.cell (p := ⟨p, 0, none⟩) (Nat.lt_of_lt_of_le hp hS.size)).trans hcl
      case k3 => exact (hA.frozen (p := ⟨p, 0, none⟩) (Nat.lt_of_lt_of_le hp hS.size)).trans hfl
      case k4 => exact Nat.lt_of_lt_of_le hq (Nat.le_trans hS.size hA.size)
      case k5 => exact (hA.cell (p := ⟨q, 0, none⟩) (Nat.lt_of_lt_of_le hq hS.size)).trans hqr
      rintro e w1 ⟨rfl, hS1, hf1, hc1⟩
      have hS2 := (hS.trans (Stays.of_below hA)).trans hS1
      clear hS1 hA y0 y1 y2 y3 hqr hcl hfl
      by_cases hz : chk1 l last l[k] = 0
      · have HN : Hid (eachC l 0 l = eachC l (newLast l[k] last) (l.drop (k + 1))) := ec_next hlt H.out hz
        rw [hz]
        clear hz
        go_wp2
        go_roundw
        case rel => exact ⟨k + 1, _, by go_num, by omega, hS2, hc1, hf1, HN⟩
        case measure => simp [intOf]; omega
      · have HR : Hid (eachC l 0 l = chk1 l last l[k]) := ec_bad hlt H.out hz
        have hz' : (chk1 l last l[k] != 0) = true := by simpa using hz
        clear hz
        go_wp2
        go_ret
        exact ⟨ret_int HR.out.symm, hB.trans (hS2.below hB.size hp0 (by simp))⟩
    · have HR : Hid (eachC l 0 l = 0) := ec_end hlt H.out
      go_wp2
      go_ret
      exact ⟨ret_int HR.out.symm, hBr⟩

set_option maxHeartbeats 800000 in
theorem checkS_any (a : Option Addr) (c : Nat) (l : List Ob) (w : World) (h : HoldsS w a l) (hl : l.length ≤ 9223372036854775807) :
    Calls Try.prog 8 #[.slice a l.length c] w fun e w' => e = .returned (.int .i64 (checkS l)) ∧ Below w.heap.size w w' := by
  have hmf : ∀ (fn : Fn) (first cap : Array Value) (w : World), (Instr.makeFunc fn first cap).run Try.prog w = .ok (.func fn first cap) w := fun _ _ _ _ => rfl
  have hB2 := below_alloc2 w (.cells #[.slice a l.length c] 22) (.cells #[.int .i64 0] 3)
  by_cases hm : (40 : Int) < (l.length : Int)
  · go_enter Try.func8, Try.ntmps8
    go_wp2
    go_ret
    exact ⟨ret_int (by rw [checkS, if_pos (by omega)]), below_alloc _ _⟩
  · have HR : Hid (checkS l = eachC l 0 l) := by unfold Hid; rw [checkS, if_neg (by omega)]
    go_enter Try.func8, Try.ntmps8
    go_wp2_with fail
    refine (each_check a c l (w.heap.size + 1) w.heap.size w _ h hl hB2 (Nat.le_succ _) ?k1 ?k2 ?k3 ?k4 (by omega) ?k5).mono ?_
    case k1 => simp
    case k2 => simp [go_sem]
    case k3 => simp [go_sem]
    case k4 => simp; omega
    case k5 => simp [go_sem]
    rintro e w1 ⟨rfl, hb⟩
    go_wp2
    go_ret
    exact ⟨ret_int HR.out.symm, hb⟩
end Go.Proofs.Ytehmlpkapjdhkaa
