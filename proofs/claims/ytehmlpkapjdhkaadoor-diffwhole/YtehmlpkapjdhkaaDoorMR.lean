import Derived.Test.YtehmlpkapjdhkaaDoorMH
import Derived.Test.YtehmlpkapjdhkaaDoorSh
namespace Go.Proofs.YtehmlpkapjdhkaaDoor
section
set_option maxRecDepth 100000
open Go.RowKit

section
open Go.Shelf

/-- may a rune stand in a name? -/
def mayI (c : Int) : Bool := (decide (97 ≤ c) && decide (c ≤ 122)) || (decide (48 ≤ c) && decide (c ≤ 57)) || c == 45

set_option maxHeartbeats 400000 in
theorem mayStand_any (c : Int) (w : World) : Calls Tryd.prog 54 #[.int .i32 c] w fun e w' => e = .returned (.bool (mayI c)) ∧ Below w.heap.size w w' := by
  by_cases h1 : 97 ≤ c ∧ c ≤ 122
  · have a1 : decide (97 ≤ c) = true := by simpa using h1.1
    have a2 : decide (c ≤ 122) = true := by simpa using h1.2
    have HR : Hid (true = mayI c) := by unfold Hid mayI; simp [h1.1, h1.2]
    clear h1
    go_enter Tryd.func54, Tryd.ntmps54
    go_wp2
    all_goals go_ret
    all_goals exact ⟨ret_bool HR.out, Below.refl _ _⟩
  · have HN : Hid (∀ b : Bool, (b = true ↔ ((48 ≤ c ∧ c ≤ 57) ∨ c = 45)) → b = mayI c) := fun b hb => by
      unfold mayI
      rw [Bool.eq_iff_iff, hb]
      simp only [Bool.or_eq_true, Bool.and_eq_true, decide_eq_true_eq, beq_iff_eq]
      omega
    go_enter Tryd.func54, Tryd.ntmps54
    go_wp2
    all_goals go_ret
    all_goals refine ⟨ret_bool (HN.out _ ?_), Below.refl _ _⟩
    all_goals simp only [Bool.or_eq_true, decide_eq_true_eq, beq_iff_eq, true_iff]
    all_goals first | done | omega

def badRune (x : Nat) : Bool := !mayI (x : Int)

theorem name1_grows (w : World) : PredGrows Tryd.prog 53 #[] badRune w := by
  intro W x _ _
  show Calls Tryd.prog 53 #[.int .i32 (x : Int)] W _
  go_enter Tryd.func53, Tryd.ntmps53
  go_wp2_with fail
  refine (mayStand_any (x : Int) W).mono ?_
  rintro e w1 ⟨rfl, hb⟩
  go_wp2
  go_ret
  exact ⟨rfl, hb⟩

/-- the slash. -/
abbrev slash : ByteArray := { data := #[47] }
/-- a name's steps. -/
def steps (s : ByteArray) : List ByteArray := Lib.splitB slash 0 (Lib.countB s slash) s
theorem steps_length (s : ByteArray) : (steps s).length = Lib.countB s slash + 1 := Lib.splitB_all slash (by decide) 0 _ s rfl
/-- may a step not stand? -/
def badStep (t : ByteArray) : Bool := (t.toList == []) || decide (0 ≤ Lib.idxFunc badRune true t)
/-- what Name answers. -/
def nameE (s : ByteArray) : Int := if 12 < s.size then 2 else if (steps s).any badStep then 1 else 0

/-- the library's variable holds some number. -/
def Glob (w : World) : Prop := ∃ m, w.cell? ⟨0, 0, none⟩ = some (.int .i64 m)
theorem Glob.lt {w : World} (h : Glob w) : 0 < w.heap.size := by
  obtain ⟨m, hm⟩ := h
  rcases Nat.eq_zero_or_pos w.heap.size with h0 | h0
  · have he : w.heap[0]? = none := Array.getElem?_eq_none (by omega)
    simp [World.cell?, he] at hm
  · exact h0
theorem Glob.below {w w' : World} (h : Glob w) (hb : Below w.heap.size w w') : Glob w' := by
  have hl := h.lt
  obtain ⟨m, hm⟩ := h
  exact ⟨m, (hb.cell (p := ⟨0, 0, none⟩) hl).trans hm⟩

set_option maxHeartbeats 1000000 in
theorem name_any (s : ByteArray) (w : World) (hg : Glob w) :
    Calls Tryd.prog 41 #[.string s] w fun e w' => e = .returned (.int .i64 (nameE s)) ∧ Below w.heap.size w w' := by
  by_cases h12 : (12 : Int) < (s.size : Int)
  · have HR : Hid (2 = nameE s) := by unfold Hid nameE; rw [if_pos (by omega)]
    go_enter Tryd.func41, Tryd.ntmps41
    go_wp2
    go_ret
    exact ⟨ret_int HR.out, Below.refl _ _⟩
  have HN : Hid (nameE s = if (steps s).any badStep then 1 else 0) := by unfold Hid nameE; rw [if_neg (by omega)]
  obtain ⟨mm, hmm⟩ := hg
  have hsp := Tryd.strings_Split s slash mm w (by omega) hmm (by decide)
  have hA := below_alloc w (.cells ((steps s).map Value.string).toArray 9)
  have hbk := heap_alloc_new w (.cells ((steps s).map Value.string).toArray 9)
  have hsl : (steps s).length ≤ 1000 := by
    have h1 := steps_length s
    have h2 := Lib.countB_le slash (by decide) s.size s (Nat.le_refl _)
    omega
  rw [← steps_length s] at hsp
  obtain ⟨P, hP⟩ : ∃ P, P = steps s := ⟨_, rfl⟩
  have hsp' : Calls Tryd.prog 51 #[.string s, .string slash] w fun e w' => e = .returned (.slice (some ⟨w.heap.size, 0, none⟩) P.length P.length) ∧ w' = w.alloc (.cells (P.map Value.string).toArray 9) := by rw [hP]; exact hsp
  rw [← hP] at HN hA hbk hsl
  clear hsp hP hmm
  go_enter Tryd.func41, Tryd.ntmps41
  go_wp2_with fail
  refine hsp'.mono ?_
  clear hsp'
  rintro e w1 ⟨rfl, rfl⟩
  have hcell : ∀ k (hk : k < P.length), (w.alloc (.cells (P.map Value.string).toArray 9)).cell? ⟨w.heap.size, k, none⟩ = some (.string P[k]) := fun k hk => by
    rw [cell_of_row _ _ k _ _ _ hbk]
    simp [hk]
  have hwl : w.heap.size < (w.alloc (.cells (P.map Value.string).toArray 9)).heap.size := heap_lt hbk
  clear hbk
  go_wp2_with fail
  generalize w.alloc (.cells (P.map Value.string).toArray 9) = W1 at *
  go_loopw [11] (fun i wr => ∃ k : Nat, i = .int .i64 k ∧ k ≤ P.length ∧ Below W1.heap.size W1 wr ∧ Hid (∀ t ∈ P.take k, badStep t = false)) (fun i _ => P.length - (intOf i).toNat)
  case atStart => exact ⟨0, rfl, Nat.zero_le _, Below.refl _ _, fun t ht => by simp at ht⟩
  case round =>
    obtain ⟨k, rfl, hk, hB, H⟩ := hrel
    by_cases hlt : k < P.length
    · have x0 := (hB.cell (p := ⟨w.heap.size, k, none⟩) hwl).trans (hcell k hlt)
      have hki : (k : Int) < (P.length : Int) := by omega
      have HT : Hid (P[k] ∈ P) := List.getElem_mem hlt
      have HTk : Hid (P.take (k + 1) = P.take k ++ [P[k]]) := List.take_succ_eq_append_getElem hlt
      generalize P[k] = t at *
      clear hcell
      have hBw := hA.trans (hB.mono hA.size)
      have hcf := Tryd.strings_ContainsFunc_grows 53 #[] (enters_of Tryd.func53 (by kernel_rfl) rfl) badRune t wr (name1_grows wr)
      by_cases h0 : t.toList = []
      · have HR : Hid (1 = nameE s) := by
          unfold Hid
          rw [HN.out, if_pos]
          exact List.any_eq_true.2 ⟨t, HT.out, by simp [badStep, h0]⟩
        have h0' : (t.toList == []) = true := by simpa using h0
        clear hcf
        go_wp2
        go_ret
        exact ⟨ret_int HR.out, hBw⟩
      · have h0' : (t.toList == []) = false := by simpa using h0
        go_wp2_with fail
        refine hcf.mono ?_
        clear hcf
        rintro e w5 ⟨rfl, hb5⟩
        have hB5 := hB.trans (hb5.mono hB.size)
        have hBw5 := hBw.trans (hb5.mono hBw.size)
        have HBS : Hid (badStep t = decide (0 ≤ Lib.idxFunc badRune true t)) := by unfold Hid badStep; rw [h0', Bool.false_or]
        generalize decide (0 ≤ Lib.idxFunc badRune true t) = d at *
        clear hb5 hB hBw h0 x0
        cases d with
        | true =>
          have HR : Hid (1 = nameE s) := by
            unfold Hid
            rw [HN.out, if_pos]
            exact List.any_eq_true.2 ⟨t, HT.out, HBS.out⟩
          go_wp2
          go_ret
          exact ⟨ret_int HR.out, hBw5⟩
        | false =>
          have HH : Hid (∀ u ∈ P.take (k + 1), badStep u = false) := fun u hu => by
            rw [HTk.out] at hu
            rcases List.mem_append.1 hu with q | q
            · exact H.out u q
            · rw [List.mem_singleton.1 q]; exact HBS.out
          go_wp2
          go_roundw
          case rel => exact ⟨k + 1, by go_num, by omega, hB5, HH⟩
          case measure => simp [intOf]; omega
    · have HR : Hid (0 = nameE s) := by
        unfold Hid
        rw [HN.out, if_neg]
        intro q
        obtain ⟨t, ht, hb⟩ := List.any_eq_true.1 q
        rw [H.out t (by rw [List.take_of_length_le (by omega)]; exact ht)] at hb
        cases hb
      go_wp2
      go_ret
      exact ⟨ret_int HR.out, hA.trans (hB.mono hA.size)⟩
end

/-- a ref, as data. -/
structure Rf where
  name : ByteArray
  id : Int
abbrev Rf.val (r : Rf) : Value := .agg #[.string r.name, .int .i64 r.id]
def RfAt (w : World) (b o : Nat) (r : Rf) : Prop := w.cell? ⟨b, o, none⟩ = some (.string r.name) ∧ w.cell? ⟨b, o + 1, none⟩ = some (.int .i64 r.id)
/-- a slice of refs reads as a list. -/
def HoldsR (w : World) (a : Option Addr) (l : List Rf) : Prop :=
  ∀ i, i < l.length → ∃ b off, a = some ⟨b, off, none⟩ ∧ b < w.heap.size ∧ ∀ i (h : i < l.length), RfAt w b (off + i * 2) l[i]
theorem HoldsR.below {w w' : World} {a : Option Addr} {l : List Rf} (h : HoldsR w a l) (hb : Below w.heap.size w w') : HoldsR w' a l := by
  intro i hi
  obtain ⟨b, off, e, hlt, hc⟩ := h i hi
  exact ⟨b, off, e, Nat.lt_of_lt_of_le hlt hb.size, fun j hj => ⟨(hb.cell (p := ⟨b, off + j * 2, none⟩) hlt).trans (hc j hj).1, (hb.cell (p := ⟨b, off + j * 2 + 1, none⟩) hlt).trans (hc j hj).2⟩⟩

/-- the first that P says yes to, or -1. -/
def indexR (P : Rf → Bool) (l : List Rf) : Int := match l.findIdx? P with | some i => (i : Int) | none => -1
theorem indexR_hit {P : Rf → Bool} {l : List Rf} {k : Nat} (hk : k < l.length) (hno : ∀ j (h : j < l.length), j < k → P l[j] = false) (h : P l[k] = true) : indexR P l = k := by
  have : l.findIdx? P = some k := by
    rw [List.findIdx?_eq_some_iff_getElem]
    exact ⟨hk, h, fun j hj => by simpa using hno j (by omega) hj⟩
  simp [indexR, this]
theorem indexR_miss {P : Rf → Bool} {l : List Rf} (hno : ∀ j (h : j < l.length), P l[j] = false) : indexR P l = -1 := by
  have : l.findIdx? P = none := by
    rw [List.findIdx?_eq_none_iff]
    intro x hx
    obtain ⟨j, hj, rfl⟩ := List.getElem_of_mem hx
    exact hno j hj
  simp [indexR, this]
theorem indexR_cases (P : Rf → Bool) (l : List Rf) : (indexR P l = -1 ∧ ∀ x ∈ l, P x = false) ∨ ∃ i : Nat, indexR P l = i ∧ ∃ hi : i < l.length, P l[i] = true ∧ ∀ j (hj : j < l.length), j < i → P l[j] = false := by
  unfold indexR
  cases h : l.findIdx? P with
  | none =>
    rw [List.findIdx?_eq_none_iff] at h
    exact .inl ⟨rfl, h⟩
  | some i =>
    rw [List.findIdx?_eq_some_iff_getElem] at h
    obtain ⟨h1, h2, h3⟩ := h
    exact .inr ⟨i, rfl, h1, h2, fun j _ hji => by simpa using h3 j hji⟩
/-- are two names one? -/
def sameN (nm : ByteArray) (r : Rf) : Bool := r.name.toList == nm.toList
set_option maxHeartbeats 400000 in
theorem get1_any (x : Rf) (nm : ByteArray) (p : Nat) (w : World) (hp : w.cell? ⟨p, 0, none⟩ = some (.string nm)) (hlt : p < w.heap.size) :
    Calls Tryd.prog 46 #[x.val, .pointer (some ⟨p, 0, none⟩)] w fun e w' => e = .returned (.bool (sameN nm x)) ∧ Below w.heap.size w w' := by
  go_enter Tryd.func46, Tryd.ntmps46
  go_wp2
  go_ret
  exact ⟨rfl, below_alloc _ _⟩

set_option maxHeartbeats 800000 in
theorem indexGet_any (a : Option Addr) (c : Nat) (l : List Rf) (nm : ByteArray) (p : Nat) (w : World) (h : HoldsR w a l) (hl : l.length ≤ 9223372036854775807) (hp : w.cell? ⟨p, 0, none⟩ = some (.string nm)) (hlt : p < w.heap.size) :
    Calls Tryd.prog 45 #[.slice a l.length c, .func (.func 46) #[] #[.pointer (some ⟨p, 0, none⟩)]] w fun e w' => e = .returned (.int .i64 (indexR (sameN nm) l)) ∧ Below w.heap.size w w' := by
  go_enter Tryd.func45, Tryd.ntmps45
  go_wp2
  go_loopw [8] (fun i wr => ∃ k : Nat, i = .int .i64 k ∧ k ≤ l.length ∧ Below w.heap.size w wr ∧ Hid (∀ j (hj : j < l.length), j < k → (sameN nm) l[j] = false)) (fun i _ => l.length - (intOf i).toNat)
  case atStart => exact ⟨0, rfl, Nat.zero_le _, Below.refl _ _, fun j _ h => absurd h (Nat.not_lt_zero j)⟩
  case round =>
    obtain ⟨k, rfl, hk, hB, H⟩ := hrel
    by_cases hkl : k < l.length
    · obtain ⟨b, off, rfl, hb, hc⟩ := (h.below hB) k hkl
      obtain ⟨x0, x1⟩ := hc k hkl
      have hpr : wr.cell? ⟨p, 0, none⟩ = some (.string nm) := (hB.cell (p := ⟨p, 0, none⟩) hlt).trans hp
      have hcl := get1_any l[k] nm p wr hpr (Nat.lt_of_lt_of_le hlt hB.size)
      clear hpr
      clear hc
      go_wp2_with fail
      refine hcl.mono ?_
      clear hcl
      rintro e w1 ⟨rfl, hb1⟩
      have hB1 := hB.trans (hb1.mono hB.size)
      clear hb1 x0 x1
      by_cases hq : (sameN nm) l[k] = true
      · have HR : Hid (indexR (sameN nm) l = k) := indexR_hit hkl H.out hq
        rw [hq]
        clear hq
        go_wp2
        go_ret
        exact ⟨ret_int HR.out.symm, hB1⟩
      · have hq' : (sameN nm) l[k] = false := by simpa using hq
        have HN : Hid (∀ j (hj : j < l.length), j < k + 1 → (sameN nm) l[j] = false) := fun j hj hjk => by
          rcases Nat.lt_or_ge j k with h1 | h1
          · exact H.out j hj h1
          · have : j = k := by omega
            subst this
            exact hq'
        rw [hq']
        clear hq hq'
        go_wp2
        go_roundw
        case rel => exact ⟨k + 1, by go_num, by omega, hB1, HN⟩
        case measure => simp [intOf]; omega
    · have HR : Hid (indexR (sameN nm) l = -1) := indexR_miss (fun j hj => H.out j hj (by omega))
      go_wp2
      go_ret
      exact ⟨ret_int HR.out.symm, hB⟩

/-- what Get answers. -/
def getE (l : List Rf) (nm : ByteArray) : Int := if nameE nm ≠ 0 then nameE nm else if indexR (sameN nm) l < 0 then 5 else 0
def getI (l : List Rf) (nm : ByteArray) : Int := if getE l nm ≠ 0 then 0 else (l[(indexR (sameN nm) l).toNat]?.map Rf.id).getD 0

set_option maxHeartbeats 800000 in
theorem get_any (a : Option Addr) (c : Nat) (l : List Rf) (nm : ByteArray) (w : World) (hg : Glob w) (h : HoldsR w a l) (hl : l.length ≤ 9223372036854775807) :
    Calls Tryd.prog 29 #[.slice a l.length c, .string nm] w fun e w' => e = .returned (.tuple #[.int .i64 (getI l nm), .int .i64 (getE l nm)]) ∧ Below w.heap.size w w' := by
  have hmf : ∀ (fn : Fn) (first cap : Array Value) (w : World), (Instr.makeFunc fn first cap).run Tryd.prog w = .ok (.func fn first cap) w := fun _ _ _ _ => rfl
  have hA := below_alloc w (.cells #[.string nm] 9)
  have hp : (w.alloc (.cells #[.string nm] 9)).cell? ⟨w.heap.size, 0, none⟩ = some (.string nm) := by rw [World.cell?_alloc_at _ _ _ _ rfl]; rfl
  have hsz : w.heap.size < (w.alloc (.cells #[.string nm] 9)).heap.size := by simp
  go_enter Tryd.func29, Tryd.ntmps29
  go_wp2_with fail
  refine (name_any nm _ (hg.below hA)).mono ?_
  rintro e w1 ⟨rfl, hb1⟩
  have hp1 := (hb1.cell (p := ⟨w.heap.size, 0, none⟩) hsz).trans hp
  have hsz1 := Nat.lt_of_lt_of_le hsz hb1.size
  have hB1 := hA.trans (hb1.mono hA.size)
  clear hp hsz hb1 hA
  by_cases hz : nameE nm = 0
  case neg =>
    have HR : Hid (getE l nm = nameE nm ∧ getI l nm = 0) := by
      have e : getE l nm = nameE nm := by rw [getE, if_pos hz]
      exact ⟨e, by rw [getI, if_pos (by rw [e]; exact hz)]⟩
    have z1 : (nameE nm != 0) = true := by simpa using hz
    clear hz
    go_wp2
    refine bodyPost_ret (v := .tuple #[.int .i64 0, .int .i64 (nameE nm)]) (by simp [results, Tryd.results29, go_sem]) rfl ?_
    exact ⟨by rw [HR.out.1, HR.out.2], hB1⟩
  have HE : Hid (getE l nm = if indexR (sameN nm) l < 0 then 5 else 0) := by unfold Hid getE; rw [if_neg (fun e => e hz)]
  rw [hz]
  clear hz
  go_wp2_with fail
  refine (indexGet_any a c l nm w.heap.size w1 (h.below hB1) hl hp1 hsz1).mono ?_
  rintro e w2 ⟨rfl, hb2⟩
  have hB2 := hB1.trans (hb2.mono hB1.size)
  clear hb2 hB1 hp1 hsz1
  rcases indexR_cases (sameN nm) l with ⟨h1, -⟩ | ⟨i, h1, hi, -, -⟩
  · have HR : Hid (getE l nm = 5 ∧ getI l nm = 0) := by
      have e : getE l nm = 5 := by rw [HE.out, if_pos (by omega)]
      exact ⟨e, by rw [getI, if_pos (by rw [e]; decide)]⟩
    rw [h1]
    clear h1
    go_wp2
    refine bodyPost_ret (v := .tuple #[.int .i64 0, .int .i64 5]) (by simp [results, Tryd.results29, go_sem]) rfl ?_
    exact ⟨by rw [HR.out.1, HR.out.2], hB2⟩
  · have HR : Hid (getE l nm = 0 ∧ getI l nm = l[i].id) := by
      have e : getE l nm = 0 := by rw [HE.out, if_neg (by omega)]
      refine ⟨e, ?_⟩
      rw [getI, if_neg (fun q => q e), h1]
      simp [hi]
    rw [h1]
    clear h1
    obtain ⟨b, off, rfl, hb, hc⟩ := (h.below hB2) i hi
    obtain ⟨x0, x1⟩ := hc i hi
    have hi' : (i : Int) < (l.length : Int) := by omega
    clear hc
    go_wp2
    refine bodyPost_ret (v := .tuple #[.int .i64 l[i].id, .int .i64 0]) (by simp [results, Tryd.results29, go_sem]) rfl ?_
    exact ⟨by rw [HR.out.1, HR.out.2], hB2⟩

/-- does a name not come behind another one? -/
def leB (x y : ByteArray) : Bool := Op.bytesLess x.toList y.toList || x.toList == y.toList
abbrev nMain : ByteArray := { data := #[109, 97, 105, 110] }
abbrev nXY : ByteArray := { data := #[120, 47, 121] }
def namesL : List Rf := [⟨nMain, 3⟩, ⟨nXY, 5⟩]

set_option maxHeartbeats 400000 in
theorem names_any (w : World) : Calls Tryd.prog 15 #[] w fun e w' => ∃ g, e = .returned (.slice (some ⟨g, 0, none⟩) 2 2) ∧ HoldsR w' (some ⟨g, 0, none⟩) namesL ∧ Below w.heap.size w w' := by
  have hA := below_alloc w (.cells #[.string nMain, .int .i64 3, .string nXY, .int .i64 5] 43)
  have hbk := heap_alloc_new w (.cells #[.string nMain, .int .i64 3, .string nXY, .int .i64 5] 43)
  have hH : HoldsR (w.alloc (.cells #[.string nMain, .int .i64 3, .string nXY, .int .i64 5] 43)) (some ⟨w.heap.size, 0, none⟩) namesL := by
    intro i hi
    refine ⟨_, _, rfl, heap_lt hbk, fun k hk => ?_⟩
    match k, hk with
    | 0, _ => exact ⟨by rw [cell_of_row _ _ _ _ _ _ hbk]; rfl, by rw [cell_of_row _ _ _ _ _ _ hbk]; rfl⟩
    | 1, _ => exact ⟨by rw [cell_of_row _ _ _ _ _ _ hbk]; rfl, by rw [cell_of_row _ _ _ _ _ _ hbk]; rfl⟩
  go_enter Tryd.func15, Tryd.ntmps15
  go_wp2
  go_ret
  exact ⟨_, rfl, hH, hA⟩

theorem less_total : ∀ a b : List UInt8, Op.bytesLess a b = false → a ≠ b → Op.bytesLess b a = true
  | [], [], _, h => absurd rfl h
  | _ :: _, [], _, _ => rfl
  | [], _ :: _, h, _ => by cases h
  | x :: a, y :: b, h, hne => by
    simp only [Op.bytesLess, Bool.or_eq_false_iff, Bool.and_eq_false_iff, decide_eq_false_iff_not] at h
    simp only [Op.bytesLess, Bool.or_eq_true, Bool.and_eq_true, decide_eq_true_eq, beq_iff_eq]
    by_cases e : x = y
    · subst e
      refine .inr ⟨rfl, less_total a b ?_ (fun q => hne (by rw [q]))⟩
      rcases h.2 with q | q
      · simp at q
      · exact q
    · refine .inl ?_
      have h1 := h.1
      rw [UInt8.not_lt] at h1
      exact UInt8.lt_of_le_of_ne h1 (fun q => e q.symm)
theorem less_irrefl : ∀ a : List UInt8, Op.bytesLess a a = false
  | [] => rfl
  | x :: a => by simp [Op.bytesLess, less_irrefl a]
theorem less_trans : ∀ a b c : List UInt8, Op.bytesLess a b = true → Op.bytesLess b c = true → Op.bytesLess a c = true
  | a, [], _, h, _ => by cases a <;> simp [Op.bytesLess] at h
  | _, _ :: _, [], _, h => by cases h
  | [], _ :: _, _ :: _, _, _ => rfl
  | x :: a, y :: b, z :: c, h1, h2 => by
    simp only [Op.bytesLess, Bool.or_eq_true, Bool.and_eq_true, decide_eq_true_eq, beq_iff_eq] at h1 h2 ⊢
    rcases h1 with h1 | ⟨e1, h1⟩
    · rcases h2 with h2 | ⟨e2, h2⟩
      · exact .inl (UInt8.lt_trans h1 h2)
      · rw [← e2]; exact .inl h1
    · rcases h2 with h2 | ⟨e2, h2⟩
      · rw [e1]; exact .inl h2
      · exact .inr ⟨by rw [e1, e2], less_trans a b c h1 h2⟩

/-- a name ahead of another one. -/
def ltN (x y : ByteArray) : Prop := Op.bytesLess x.toList y.toList = true
theorem leB_iff {x y : ByteArray} : leB x y = false ↔ ltN y x := by
  unfold leB ltN
  rw [Bool.or_eq_false_iff]
  constructor
  · rintro ⟨h1, h2⟩
    exact less_total _ _ h1 (by simpa using h2)
  · intro h
    have h1 : Op.bytesLess x.toList y.toList = false := by
      cases q : Op.bytesLess x.toList y.toList with
      | false => rfl
      | true => have := less_trans _ _ _ q h; rw [less_irrefl] at this; cases this
    refine ⟨h1, ?_⟩
    cases q : x.toList == y.toList with
    | false => rfl
    | true =>
      rw [beq_iff_eq] at q
      rw [q, less_irrefl] at h
      cases h
theorem ltN.trans {x y z : ByteArray} (h1 : ltN x y) (h2 : ltN y z) : ltN x z := less_trans _ _ _ h1 h2
theorem ltN.ne {x y : ByteArray} (h : ltN x y) : (x.toList == y.toList) = false := by
  cases q : x.toList == y.toList with
  | false => rfl
  | true =>
    rw [beq_iff_eq] at q
    unfold ltN at h
    rw [q, less_irrefl] at h
    cases h

theorem Tryd.info43 : (Tryd.prog.info? 43).map (fun i => (i.zero, i.size, i.bytes)) = some (some (.agg #[.string { data := #[] }, .int .i64 0]), 2, 24) := by kernel_rfl

def Rf.cells (r : Rf) : List Value := [.string r.name, .int .i64 r.id]
def rowR : List Rf → List Value
  | [] => []
  | r :: rs => r.cells ++ rowR rs
theorem rowR_append (A B : List Rf) : rowR (A ++ B) = rowR A ++ rowR B := by
  induction A with
  | nil => rfl
  | cons r A ih => simp [rowR, ih]
theorem rowR_length (A : List Rf) : (rowR A).length = A.length * 2 := by
  induction A with
  | nil => rfl
  | cons r A ih => simp [rowR, ih, Rf.cells]; omega
theorem rowR_one (A : List Rf) : ∀ v ∈ rowR A, v.oneCell' = true := by
  induction A with
  | nil => intro v h; cases h
  | cons r A ih =>
    intro v h
    rcases List.mem_append.1 h with h | h
    · simp only [Rf.cells, List.mem_cons, List.not_mem_nil, or_false] at h
      rcases h with rfl | rfl <;> rfl
    · exact ih v h
theorem rowR_get (A : List Rf) (i j : Nat) (hi : i < A.length) (hj : j < 2) : (rowR A)[i * 2 + j]? = (A[i].cells)[j]? := by
  induction A generalizing i with
  | nil => simp at hi
  | cons r A ih =>
    cases i with
    | zero =>
      simp only [rowR, Nat.zero_mul, Nat.zero_add, List.getElem_cons_zero]
      exact List.getElem?_append_left (by simpa [Rf.cells] using hj)
    | succ i =>
      have := ih i (by simpa using hi)
      rw [List.getElem_cons_succ, ← this]
      simp only [rowR]
      rw [List.getElem?_append_right (by simp [Rf.cells]; omega)]
      congr 1
      simp [Rf.cells]; omega

/-- a list of refs that is read, as a row of cells. -/
theorem holdsR_row {w : World} {b off : Nat} {m : List Rf} (h : ∀ k (hk : k < m.length), RfAt w b (off + k * 2) m[k]) : ∀ j u, (rowR m)[j]? = some u → w.cell? ((⟨b, off, none⟩ : Addr).add j) = some u := by
  intro j u hj
  have hadd : (⟨b, off, none⟩ : Addr).add j = ⟨b, off + j, none⟩ := by unfold Addr.add; split <;> simp_all
  rw [hadd]
  have hlt : j < m.length * 2 := by
    rcases Nat.lt_or_ge j (m.length * 2) with q | q
    · exact q
    · rw [List.getElem?_eq_none (by rw [rowR_length]; exact q)] at hj; cases hj
  have hk : j / 2 < m.length := by omega
  have hr := rowR_get m (j / 2) (j % 2) hk (by omega)
  rw [show j / 2 * 2 + j % 2 = j by omega, hj] at hr
  obtain ⟨c0, c1⟩ := h (j / 2) hk
  rcases Nat.mod_two_eq_zero_or_one j with e | e
  · rw [e] at hr
    rw [show off + j = off + j / 2 * 2 by omega, c0]
    simpa [Rf.cells] using hr.symm
  · rw [e] at hr
    rw [show off + j = off + j / 2 * 2 + 1 by omega, c1]
    simpa [Rf.cells] using hr.symm

/-- append of a list of refs onto a row of one's own. -/
theorem app_refs (w : World) (base : Nat) (ty : TypeId) (v : Value) (xs : List Rf) (hown : w.ownsRow base 43 2 v xs.length (rowR xs)) (b off c : Nat) (m : List Rf) (h : ∀ k (hk : k < m.length), RfAt w b (off + k * 2) m[k]) (hlen : xs.length + m.length ≤ 1000) (hbase : base ≤ w.heap.size) :
    ∃ v' w', (Builtin.append_ #[40, 40] ty #[v, .slice (some ⟨b, off, none⟩) m.length c]).run Tryd.prog w = .ok v' w' ∧ w'.ownsRow base 43 2 v' (xs ++ m).length (rowR (xs ++ m)) ∧ w.grownBy w' v.ownBlock := by
  obtain ⟨i0, hi0, hz0, hzs, hzb⟩ := info_parts Tryd.info43
  obtain ⟨v', w', hr, q1, q2, _⟩ := run_append_own (P := Tryd.prog) w base 40 ty 43 i0 _ 2 24 Tryd.underlying40 hi0 hz0 hzs hzb rfl (by omega) v xs.length (rowR xs) hown ⟨b, off, none⟩ m.length c (rowR m) (rowR_length m) (holdsR_row h) (rowR_one m) (by unfold maxLen; omega) (by omega) hbase
  exact ⟨v', w', hr, by rw [List.length_append, rowR_append]; exact q1, q2⟩

theorem ownR_reads {w : World} {base : Nat} {v : Value} {xs : List Rf} (h : w.ownsRow base 43 2 v xs.length (rowR xs)) : ∃ a c, v = .slice a xs.length c ∧ HoldsR w a xs := by
  rcases h.2 with ⟨rfl, e⟩ | ⟨g, cap, cur, rfl, h1, h2, h3, h4, h5, h6⟩
  · rw [e]
    exact ⟨none, 0, rfl, fun i hi => by omega⟩
  · refine ⟨_, _, rfl, fun i hi => ⟨g, 0, rfl, heap_lt h2, fun k hk => ?_⟩⟩
    have hc : ∀ j, j < 2 → w.cell? ⟨g, 0 + k * 2 + j, none⟩ = (xs[k].cells)[j]? := fun j hj => by
      rw [Nat.zero_add, cell_of_row w g _ _ _ _ h2, ← rowR_get xs k j hk hj, ← h6, List.getElem?_take, if_pos (by omega)]
      simp
    exact ⟨by simpa [Rf.cells] using hc 0 (by omega), by simpa [Rf.cells] using hc 1 (by omega)⟩
end

section
open Go.RowKit
theorem name_eq {x y : ByteArray} : (x.toList == y.toList) = true ↔ x = y := by
  rw [beq_iff_eq, ByteArray.toList_eq, ByteArray.toList_eq]
  constructor
  · intro h
    have := Array.toList_inj.1 h
    cases x; cases y; simpa using this
  · intro h; rw [h]
theorem ltN.neq {x y : ByteArray} (h : ltN x y) : x ≠ y := fun e => by
  have := h.ne
  rw [e] at this; simp at this
theorem ltN.irrefl (x : ByteArray) : ¬ ltN x x := fun h => h.neq rfl
theorem ltN.asymm {x y : ByteArray} (h : ltN x y) : ¬ ltN y x := fun h' => ltN.irrefl x (h.trans h')
/-- rising by name. -/
def SortR (l : List Rf) : Prop := l.Pairwise (fun x y => ltN x.name y.name)
/-- an update, as data. -/
structure Up where
  name : ByteArray
  old : Int
  new : Int
end

section
open Go.RowKit
set_option maxRecDepth 100000

def UpAt (w : World) (b o : Nat) (u : Up) : Prop := w.cell? ⟨b, o, none⟩ = some (.string u.name) ∧ w.cell? ⟨b, o + 1, none⟩ = some (.int .i64 u.old) ∧ w.cell? ⟨b, o + 2, none⟩ = some (.int .i64 u.new)
/-- a slice of updates reads as a list. -/
def HoldsU (w : World) (a : Option Addr) (l : List Up) : Prop :=
  ∀ i, i < l.length → ∃ b off, a = some ⟨b, off, none⟩ ∧ b < w.heap.size ∧ ∀ i (h : i < l.length), UpAt w b (off + i * 3) l[i]
theorem HoldsU.below {w w' : World} {a : Option Addr} {l : List Up} (h : HoldsU w a l) (hb : Below w.heap.size w w') : HoldsU w' a l := by
  intro i hi
  obtain ⟨b, off, e, hlt, hc⟩ := h i hi
  exact ⟨b, off, e, Nat.lt_of_lt_of_le hlt hb.size, fun j hj => ⟨(hb.cell (p := ⟨b, off + j * 3, none⟩) hlt).trans (hc j hj).1, (hb.cell (p := ⟨b, off + j * 3 + 1, none⟩) hlt).trans (hc j hj).2.1, (hb.cell (p := ⟨b, off + j * 3 + 2, none⟩) hlt).trans (hc j hj).2.2⟩⟩

theorem Tryd.info46 : (Tryd.prog.info? 46).map (fun i => (i.zero, i.size, i.bytes)) = some (some (.agg #[.string { data := #[] }, .int .i64 0, .int .i64 0]), 3, 32) := by kernel_rfl

def Up.cells (r : Up) : List Value := [.string r.name, .int .i64 r.old, .int .i64 r.new]
def rowU : List Up → List Value
  | [] => []
  | r :: rs => r.cells ++ rowU rs
theorem rowU_append (A B : List Up) : rowU (A ++ B) = rowU A ++ rowU B := by
  induction A with
  | nil => rfl
  | cons r A ih => simp [rowU, ih]
theorem rowU_get (A : List Up) (i j : Nat) (hi : i < A.length) (hj : j < 3) : (rowU A)[i * 3 + j]? = (A[i].cells)[j]? := by
  induction A generalizing i with
  | nil => simp at hi
  | cons r A ih =>
    cases i with
    | zero =>
      simp only [rowU, Nat.zero_mul, Nat.zero_add, List.getElem_cons_zero]
      exact List.getElem?_append_left (by simpa [Up.cells] using hj)
    | succ i =>
      have := ih i (by simpa using hi)
      rw [List.getElem_cons_succ, ← this]
      simp only [rowU]
      rw [List.getElem?_append_right (by simp [Up.cells]; omega)]
      congr 1
      simp [Up.cells]; omega
theorem ownU_reads {w : World} {base : Nat} {v : Value} {xs : List Up} (h : w.ownsRow base 46 3 v xs.length (rowU xs)) : ∃ a c, v = .slice a xs.length c ∧ HoldsU w a xs ∧ xs.length ≤ c := by
  rcases h.2 with ⟨rfl, e⟩ | ⟨g, cap, cur, rfl, h1, h2, h3, h4, h5, h6⟩
  · rw [e]
    exact ⟨none, 0, rfl, fun i hi => by omega, Nat.le_refl _⟩
  · refine ⟨_, _, rfl, fun i hi => ⟨g, 0, rfl, heap_lt h2, fun k hk => ?_⟩, h3⟩
    have hc : ∀ j, j < 3 → w.cell? ⟨g, 0 + k * 3 + j, none⟩ = (xs[k].cells)[j]? := fun j hj => by
      rw [Nat.zero_add, cell_of_row w g _ _ _ _ h2, ← rowU_get xs k j hk hj, ← h6, List.getElem?_take, if_pos (by omega)]
      simp
    exact ⟨by simpa [Up.cells] using hc 0 (by omega), by simpa [Up.cells] using hc 1 (by omega), by simpa [Up.cells] using hc 2 (by omega)⟩
theorem ownsRow_kept {w w' : World} {base : Nat} {e : TypeId} {size : Nat} {v : Value} {n : Nat} {xs : List Value} (h : w.ownsRow base e size v n xs) (hs : ∀ g, v.ownBlock = some g → w'.heap[g]? = w.heap[g]?) : w'.ownsRow base e size v n xs := by
  refine ⟨h.1, ?_⟩
  rcases h.2 with h | ⟨g, cap, cur, rfl, h1, h2, h3⟩
  · exact .inl h
  · exact .inr ⟨g, cap, cur, rfl, h1, (hs g rfl).trans h2, h3⟩
end

section
open Go.RowKit
set_option maxRecDepth 100000

theorem less_ntrans {a b c : List UInt8} (h1 : Op.bytesLess a b = false) (h2 : Op.bytesLess b c = false) : Op.bytesLess a c = false := by
  cases q : Op.bytesLess a c with
  | false => rfl
  | true =>
    by_cases e : b = c
    · rw [e, q] at h1; cases h1
    · have h3 := less_total b c h2 e
      have := less_trans a c b q h3
      rw [this] at h1; cases h1
end
end Go.Proofs.YtehmlpkapjdhkaaDoor
