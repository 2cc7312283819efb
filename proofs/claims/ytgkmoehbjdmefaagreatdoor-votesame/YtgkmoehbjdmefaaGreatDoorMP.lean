import Derived.Test.YtgkmoehbjdmefaaGreatDoorMU
import Derived.Shelf.Slices.In.SortNone
namespace Go.Proofs.YtgkmoehbjdmefaaGreatDoor
section
open Go.RowKit
set_option maxRecDepth 100000

/-- what Check of a push answers. -/
def pushE (m : List Ob) (us : List Up) : Int := if 12 < m.length then 2 else if eachE m ≠ 0 then eachE m else checkU us
theorem pushE_iff {m : List Ob} {us : List Up} : pushE m us = 0 ↔ m.length ≤ 12 ∧ eachE m = 0 ∧ checkU us = 0 := by
  unfold pushE
  constructor
  · intro h
    split at h
    · omega
    split at h
    · rename_i c; exact absurd h c
    rename_i c
    exact ⟨by omega, Classical.byContradiction c, h⟩
  · rintro ⟨h1, h2, h3⟩
    rw [if_neg (by omega), if_neg (fun e => e h2), h3]
/-- what Try answers. -/
def tryE (s : List Ob) (l : List Rf) (m : List Ob) (us : List Up) (f : Bool) : Int :=
  if pushE m us ≠ 0 then pushE m us else if addE s m ≠ 0 then addE s m else applyE l (takeRes s m) us f
theorem tryE_iff {s : List Ob} {l : List Rf} {m : List Ob} {us : List Up} {f : Bool} : tryE s l m us f = 0 ↔ pushE m us = 0 ∧ addE s m = 0 ∧ applyE l (takeRes s m) us f = 0 := by
  unfold tryE
  constructor
  · intro h
    split at h
    · rename_i c; exact absurd h c
    rename_i c1
    split at h
    · rename_i c; exact absurd h c
    rename_i c2
    exact ⟨Classical.byContradiction c1, Classical.byContradiction c2, h⟩
  · rintro ⟨h1, h2, h3⟩
    rw [if_neg (fun e => e h1), if_neg (fun e => e h2), h3]
/-- objects that are there already need not come. -/
theorem try_bare {s : List Ob} {l : List Rf} {m : List Ob} {us : List Up} {f : Bool} (h : tryE s l m us f = 0) : tryE (takeRes s m) l [] us f = 0 ∧ takeRes (takeRes s m) [] = takeRes s m := by
  obtain ⟨h1, h2, h3⟩ := tryE_iff.1 h
  obtain ⟨_, _, h6⟩ := pushE_iff.1 h1
  obtain ⟨a1, a2, a3, a4, a5⟩ := addE_zero h2
  have e : takeRes (takeRes s m) [] = takeRes s m := rfl
  refine ⟨tryE_iff.2 ⟨pushE_iff.2 ⟨by simp, rfl, h6⟩, ?_, by rw [e]; exact h3⟩, e⟩
  unfold addE
  rw [if_neg (fun q => q a5), if_neg (by simp), if_neg (fun q => q rfl), if_neg (fun q => q rfl)]
  exact a5
/-- done, it is refused a second time, if it moved a name. -/
theorem try_again {s : List Ob} {l : List Rf} {m : List Ob} {us : List Up} {f : Bool} (h : tryE s l m us f = 0) (hm : ∃ u ∈ us, u.old ≠ u.new) : tryE (takeRes s m) (runL l us) m us f = 4 := by
  obtain ⟨h1, h2, h3⟩ := tryE_iff.1 h
  obtain ⟨b1, b2⟩ := add_again h2
  unfold tryE
  rw [if_neg (fun q => q h1), if_neg (fun q => q b1), b2]
  exact apply_again h3 hm

/-- a push, as a value. -/
abbrev pushV (am : Option Addr) (nm cm : Nat) (au : Option Addr) (nu cu : Nat) (f : Bool) : Value := .agg #[.slice am nm cm, .slice au nu cu, .bool f]

set_option maxHeartbeats 2000000 in
theorem pcheck_any (am : Option Addr) (cm : Nat) (m : List Ob) (au : Option Addr) (cu : Nat) (us : List Up) (f : Bool) (w : World) (hg : Glob w) (hm : HoldsS w am m) (hml : m.length ≤ 9223372036854775807) (hu : HoldsU w au us) (hul : us.length ≤ 9223372036854775807) :
    Calls Tryz.prog 28 #[pushV am m.length cm au us.length cu f] w fun e w' => e = .returned (.int .i64 (pushE m us)) ∧ Below w.heap.size w w' := by
  have hA := below_alloc w (.cells #[.slice am m.length cm, .slice au us.length cu, .bool f] 26)
  have hbk := heap_alloc_new w (.cells #[.slice am m.length cm, .slice au us.length cu, .bool f] 26)
  obtain ⟨y0, y1, y2⟩ := c3_of hbk
  by_cases h12 : 12 < m.length
  · have HR : Hid (2 = pushE m us) := by unfold Hid pushE; rw [if_pos h12]
    have z1 : (12 : Int) < (m.length : Int) := by omega
    clear h12
    go_enter Tryz.func28, Tryz.ntmps28
    go_wp2
    go_ret
    exact ⟨ret_int HR.out, hA⟩
  have HP : Hid (pushE m us = if eachE m ≠ 0 then eachE m else checkU us) := by unfold Hid pushE; rw [if_neg h12]
  have z1 : ¬ (12 : Int) < (m.length : Int) := by omega
  have hgA := hg.below hA
  have hmA := hm.below hA
  have huA := hu.below hA
  go_enter Tryz.func28, Tryz.ntmps28
  go_wp2
  generalize w.alloc (.cells #[.slice am m.length cm, .slice au us.length cu, .bool f] 26) = W at *
  obtain ⟨B, hBe⟩ : ∃ B, B = w.heap.size := ⟨_, rfl⟩
  rw [← hBe] at y0 y1 y2 hbk
  rw [← hBe]
  have hBl := heap_lt hbk
  clear hBe hbk
  go_loopw [13] (fun i wr => ∃ k : Nat, i = .int .i64 k ∧ k ≤ m.length ∧ Below W.heap.size W wr ∧ Hid (eachE m = eachE (m.drop k))) (fun i _ => m.length - (intOf i).toNat)
  case atStart => exact ⟨0, rfl, Nat.zero_le _, Below.refl _ _, rfl⟩
  case round =>
    obtain ⟨k, rfl, hk, hBr, H⟩ := hrel
    have hBw := hA.trans (hBr.mono hA.size)
    by_cases hlt : k < m.length
    · obtain ⟨b, off, rfl, hb, hc⟩ := (hmA.below hBr) k hlt
      obtain ⟨sa, sc, x0, x1, x2, x3, x4, x5⟩ := hc k hlt
      clear hc
      have hA2 := below_alloc wr (.cells #[.int .i64 m[k].id, .int .i64 m[k].kind, .slice sa m[k].links.length sc, .string m[k].text] 35)
      have hck := check_any m[k].id m[k].kind sa sc m[k].links m[k].text _ (x4.below hA2) x5
      go_wp2_with fail
      refine hck.mono ?_
      clear hck
      rintro e w1 ⟨rfl, hb1⟩
      have hB1 := (hBr.trans (hA2.mono hBr.size)).trans (hb1.mono (by have := hBr.size; have := hA2.size; omega))
      have hBw1 := hA.trans (hB1.mono hA.size)
      clear hb1 hA2 x0 x1 x2 x3 x4 hBr hBw
      by_cases hz : m[k].err = 0
      · have HN : Hid (eachE m = eachE (m.drop (k + 1))) := ee_next hlt H.out hz
        rw [show checkE m[k].id m[k].kind m[k].links m[k].text.size = 0 from hz]
        clear hz
        go_wp2
        go_roundw
        case rel => exact ⟨k + 1, by go_num, by omega, hB1, HN⟩
        case measure => simp [intOf]; omega
      · have HR : Hid (pushE m us = m[k].err) := by
          have e := ee_bad hlt H.out hz
          unfold Hid
          rw [HP.out, e, if_pos hz]
        have hz' : (checkE m[k].id m[k].kind m[k].links m[k].text.size != 0) = true := by simpa using hz
        clear hz
        go_wp2
        go_ret
        exact ⟨ret_int HR.out.symm, hBw1⟩
    · have HE : Hid (pushE m us = checkU us) := by
        have e := ee_end hlt H.out
        unfold Hid
        rw [HP.out, if_neg (fun q => q e)]
      have x1 := (hBr.cell (p := ⟨B, 1, none⟩) hBl).trans y1
      have huc := ucheck_any au cu us wr (hgA.below hBr) (huA.below hBr) hul
      go_wp2_with fail
      refine huc.mono ?_
      clear huc
      rintro e w1 ⟨rfl, hb1⟩
      have hBw1 := hBw.trans (hb1.mono hBw.size)
      clear hb1 hBw x1
      go_wp2
      go_ret
      exact ⟨ret_int HE.out.symm, hBw1⟩

/-- a replica, as a value. -/
abbrev replV (aS : Option Addr) (ns cs : Nat) (al : Option Addr) (nl cl : Nat) (g ph : Int) (a1 : Option Addr) (n1 c1 : Nat) (a2 : Option Addr) (n2 c2 : Nat) (f : Bool) : Value := .agg #[.slice aS ns cs, .slice al nl cl, .int .i64 g, .int .i64 ph, .slice a1 n1 c1, .slice a2 n2 c2, .bool f]
/-- what Try hands back. -/
def TryPost (s : List Ob) (l : List Rf) (m : List Ob) (us : List Up) (f : Bool) (w : World) (e : Ending) (w' : World) : Prop :=
  Below w.heap.size w w' ∧ ((tryE s l m us f ≠ 0 ∧ e = .returned (.tuple #[.slice none 0 0, .slice none 0 0, .int .i64 (tryE s l m us f)])) ∨
    (tryE s l m us f = 0 ∧ ∃ a c a' c', e = .returned (.tuple #[.slice a (takeRes s m).length c, .slice a' (runL l us).length c', .int .i64 0]) ∧ HoldsS w' a (takeRes s m) ∧ Room w' a (takeRes s m) ∧ HoldsR w' a' (runL l us)))
theorem TryPost.bad {s : List Ob} {l : List Rf} {m : List Ob} {us : List Up} {f : Bool} {w w' : World} {r : Int} (hr : tryE s l m us f = r) (h0 : r ≠ 0) (hb : Below w.heap.size w w') : TryPost s l m us f w (.returned (.tuple #[.slice none 0 0, .slice none 0 0, .int .i64 r])) w' :=
  ⟨hb, .inl ⟨by rw [hr]; exact h0, by rw [hr]⟩⟩

set_option maxHeartbeats 2000000 in
theorem try_any (aS : Option Addr) (cs : Nat) (s : List Ob) (al : Option Addr) (cl : Nat) (l : List Rf) (g ph : Int) (a1 : Option Addr) (n1 c1 : Nat) (a2 : Option Addr) (n2 c2 : Nat) (f0 : Bool) (am : Option Addr) (cm : Nat) (m : List Ob) (au : Option Addr) (cu : Nat) (us : List Up) (f : Bool) (w : World) (hg : Glob w)
    (hs : HoldsS w aS s) (hsl : s.length ≤ 9223372036854775807) (hl : HoldsR w al l) (hll : l.length ≤ 9223372036854775807) (hm : HoldsS w am m) (hml : m.length ≤ 9223372036854775807) (hu : HoldsU w au us) (hul : us.length ≤ 9223372036854775807) :
    Calls Tryz.prog 14 #[replV aS s.length cs al l.length cl g ph a1 n1 c1 a2 n2 c2 f0, pushV am m.length cm au us.length cu f] w (TryPost s l m us f w) := by
  have HE : Hid (tryE s l m us f = if pushE m us ≠ 0 then pushE m us else if addE s m ≠ 0 then addE s m else applyE l (takeRes s m) us f) := rfl
  have hB := below_alloc2 w (.cells #[.slice aS s.length cs, .slice al l.length cl, .int .i64 g, .int .i64 ph, .slice a1 n1 c1, .slice a2 n2 c2, .bool f0] 28) (.cells #[.slice am m.length cm, .slice au us.length cu, .bool f] 26)
  have hA2 := below_alloc (w.alloc (.cells #[.slice aS s.length cs, .slice al l.length cl, .int .i64 g, .int .i64 ph, .slice a1 n1 c1, .slice a2 n2 c2, .bool f0] 28)) (.cells #[.slice am m.length cm, .slice au us.length cu, .bool f] 26)
  have hk2 : ((w.alloc (.cells #[.slice aS s.length cs, .slice al l.length cl, .int .i64 g, .int .i64 ph, .slice a1 n1 c1, .slice a2 n2 c2, .bool f0] 28)).alloc (.cells #[.slice am m.length cm, .slice au us.length cu, .bool f] 26)).heap[w.heap.size + 1]? = some (.cells #[.slice am m.length cm, .slice au us.length cu, .bool f] 26) := by
    have := heap_alloc_new (w.alloc (.cells #[.slice aS s.length cs, .slice al l.length cl, .int .i64 g, .int .i64 ph, .slice a1 n1 c1, .slice a2 n2 c2, .bool f0] 28)) (.cells #[.slice am m.length cm, .slice au us.length cu, .bool f] 26)
    rwa [show (w.alloc (.cells #[.slice aS s.length cs, .slice al l.length cl, .int .i64 g, .int .i64 ph, .slice a1 n1 c1, .slice a2 n2 c2, .bool f0] 28)).heap.size = w.heap.size + 1 by simp] at this
  have hk1 : ((w.alloc (.cells #[.slice aS s.length cs, .slice al l.length cl, .int .i64 g, .int .i64 ph, .slice a1 n1 c1, .slice a2 n2 c2, .bool f0] 28)).alloc (.cells #[.slice am m.length cm, .slice au us.length cu, .bool f] 26)).heap[w.heap.size]? = some (.cells #[.slice aS s.length cs, .slice al l.length cl, .int .i64 g, .int .i64 ph, .slice a1 n1 c1, .slice a2 n2 c2, .bool f0] 28) := (hA2.block _ (by simp)).trans (heap_alloc_new w _)
  obtain ⟨y0, y1, y2⟩ := c3_of hk2
  have hpc := pcheck_any am cm m au cu us f _ (hg.below hB) (hm.below hB) hml (hu.below hB) hul
  clear hA2
  go_enter Tryz.func14, Tryz.ntmps14
  go_wp2_with fail
  refine hpc.mono ?_
  clear hpc
  rintro e w1 ⟨rfl, hb1⟩
  have hB1 := hB.trans (hb1.mono hB.size)
  have hk21 := (hb1.block _ (heap_lt hk2)).trans hk2
  have hk11 := (hb1.block _ (heap_lt hk1)).trans hk1
  clear hb1 hB hk2 hk1 y0 y1 y2
  by_cases k1 : pushE m us = 0
  case neg =>
    have HR : Hid (tryE s l m us f = pushE m us) := by unfold Hid; rw [HE.out, if_pos k1]
    have HF : Hid (TryPost s l m us f w (.returned (.tuple #[.slice none 0 0, .slice none 0 0, .int .i64 (pushE m us)])) w1) := TryPost.bad HR.out k1 hB1
    have z1 : (pushE m us != 0) = true := by simpa using k1
    clear k1 hk21 hk11
    go_wp2
    refine bodyPost_ret (v := .tuple #[.slice none 0 0, .slice none 0 0, .int .i64 (pushE m us)]) (by simp [results, Tryz.results14, go_sem]) rfl ?_
    exact HF.out
  have HE1 : Hid (tryE s l m us f = if addE s m ≠ 0 then addE s m else applyE l (takeRes s m) us f) := by unfold Hid; rw [HE.out, if_neg (fun e => e k1)]
  rw [k1]
  clear k1 HE
  have r0 : w1.cell? ⟨w.heap.size, 0, none⟩ = some (.slice aS s.length cs) := by rw [cell_of_row w1 _ _ _ _ _ hk11]; rfl
  obtain ⟨y0, y1, y2⟩ := c3_of hk21
  have had := add_any aS cs s am cm m w1 (hs.below hB1) hsl (hm.below hB1) hml
  go_wp2_with fail
  refine had.mono ?_
  clear had
  rintro e w2 ⟨hb2, hpost⟩
  have hB2 := hB1.trans (hb2.mono hB1.size)
  have hk22 := (hb2.block _ (heap_lt hk21)).trans hk21
  have hk12 := (hb2.block _ (heap_lt hk11)).trans hk11
  clear hb2 hB1 hk21 hk11 r0 y0 y1 y2
  rcases hpost with ⟨hne, rfl⟩ | ⟨hz, a3, c3, rfl, hS3, hlc3, hR3⟩
  · have HR : Hid (tryE s l m us f = addE s m) := by unfold Hid; rw [HE1.out, if_pos hne]
    have HF : Hid (TryPost s l m us f w (.returned (.tuple #[.slice none 0 0, .slice none 0 0, .int .i64 (addE s m)])) w2) := TryPost.bad HR.out hne hB2
    have z1 : (addE s m != 0) = true := by simpa using hne
    clear hne hk22 hk12
    go_wp2
    refine bodyPost_ret (v := .tuple #[.slice none 0 0, .slice none 0 0, .int .i64 (addE s m)]) (by simp [results, Tryz.results14, go_sem]) rfl ?_
    exact HF.out
  have HE2 : Hid (tryE s l m us f = applyE l (takeRes s m) us f) := by unfold Hid; rw [HE1.out, if_neg (fun e => e hz)]
  have hR40 : (takeRes s m).length ≤ 9223372036854775807 := by have := (checkS_zero (addE_zero hz).2.2.2.2).1; omega
  clear hz HE1 hlc3
  obtain ⟨A, hA⟩ : ∃ A, A = takeRes s m := ⟨_, rfl⟩
  have HA : Hid (A = takeRes s m) := hA
  rw [← hA] at hS3 hR3 hR40 HE2
  rw [← hA]
  clear hA
  have r1 : w2.cell? ⟨w.heap.size, 1, none⟩ = some (.slice al l.length cl) := by rw [cell_of_row w2 _ _ _ _ _ hk12]; rfl
  obtain ⟨y0, y1, y2⟩ := c3_of hk22
  have hap := apply_any al cl l a3 c3 A au cu us f w2 (hg.below hB2) (hl.below hB2) hll hS3 hR3 hR40 (hu.below hB2) hul
  go_wp2_with fail
  refine hap.mono ?_
  clear hap
  rintro e w3 ⟨hb3, hpost⟩
  have hB3 := hB2.trans (hb3.mono hB2.size)
  have hS4 := hS3.below hb3
  have hR4 := hR3.below hb3
  clear hb3 hB2 hk22 hk12 r1 y0 y1 y2 hS3 hR3
  rcases hpost with ⟨hne, rfl⟩ | ⟨hz, a5, c5, rfl, hL5, -⟩
  · have HF : Hid (TryPost s l m us f w (.returned (.tuple #[.slice none 0 0, .slice none 0 0, .int .i64 (applyE l A us f)])) w3) := TryPost.bad HE2.out hne hB3
    have z1 : (applyE l A us f != 0) = true := by simpa using hne
    clear hne
    go_wp2
    refine bodyPost_ret (v := .tuple #[.slice none 0 0, .slice none 0 0, .int .i64 (applyE l A us f)]) (by simp [results, Tryz.results14, go_sem]) rfl ?_
    exact HF.out
  · have HF : Hid (TryPost s l m us f w (.returned (.tuple #[.slice a3 A.length c3, .slice a5 (runL l us).length c5, .int .i64 0])) w3) :=
      ⟨hB3, .inr ⟨HE2.out.trans hz, a3, c3, a5, c5, by rw [← HA.out], by rw [← HA.out]; exact hS4, by rw [← HA.out]; exact hR4, hL5⟩⟩
    clear hz hS4 hR4 hL5
    go_wp2
    refine bodyPost_ret (v := .tuple #[.slice a3 A.length c3, .slice a5 (runL l us).length c5, .int .i64 0]) (by simp [results, Tryz.results14, go_sem]) rfl ?_
    exact HF.out
end

section
open Go.RowKit
set_option maxRecDepth 100000

def hasO (l : List Ob) (id : Int) : Bool := decide (0 ≤ placeI l id)
theorem hasO_iff {l : List Ob} {id : Int} : hasO l id = true ↔ ∃ x ∈ l, x.id = id := by unfold hasO; rw [decide_eq_true_eq]; exact place_mem
/-- one id is asked for. -/
def askOne (s m : List Ob) (q : List Int) (id : Int) : List Int := if (!hasO s id && !hasO m id && !decide (id ∈ q)) = true then q ++ [id] else q
def askAll (s m : List Ob) : List Int → List Int → List Int
  | q, [] => q
  | q, i :: is => askAll s m (askOne s m q i) is
theorem askAll_append (s m : List Ob) : ∀ (a b q : List Int), askAll s m q (a ++ b) = askAll s m (askAll s m q a) b
  | [], _, _ => rfl
  | _ :: a, b, _ => askAll_append s m a b _
theorem askOne_length (s m : List Ob) (q : List Int) (i : Int) : (askOne s m q i).length ≤ q.length + 1 := by
  unfold askOne; split
  · simp
  · omega
theorem askAll_length (s m : List Ob) : ∀ (is q : List Int), (askAll s m q is).length ≤ q.length + is.length
  | [], _ => by simp [askAll]
  | i :: is, q => by
    have h1 := askAll_length s m is (askOne s m q i)
    have h2 := askOne_length s m q i
    rw [askAll, List.length_cons]; omega
/-- what is asked for is nowhere, and no id stands twice. -/
def Asked (s m : List Ob) (q : List Int) : Prop := (∀ i ∈ q, hasO s i = false ∧ hasO m i = false) ∧ q.Nodup
theorem askOne_asked {s m : List Ob} {q : List Int} {i : Int} (h : Asked s m q) : Asked s m (askOne s m q i) := by
  unfold askOne
  split
  · rename_i c
    simp only [Bool.and_eq_true, Bool.not_eq_true', decide_eq_false_iff_not] at c
    refine ⟨fun j hj => ?_, ?_⟩
    · rcases List.mem_append.1 hj with hj | hj
      · exact h.1 j hj
      · rw [List.mem_singleton.1 hj]; exact c.1
    · rw [List.nodup_append]
      refine ⟨h.2, by simp, fun a ha b hb e => ?_⟩
      rw [List.mem_singleton.1 hb] at e
      rw [e] at ha
      exact c.2 ha
  · exact h
theorem askAll_asked {s m : List Ob} : ∀ (is : List Int) {q : List Int}, Asked s m q → Asked s m (askAll s m q is)
  | [], _, h => h
  | _ :: is, _, h => askAll_asked is (askOne_asked h)
theorem askAll_none {s m : List Ob} : ∀ (is q : List Int), (∀ i ∈ is, hasO s i = true ∨ hasO m i = true) → askAll s m q is = q
  | [], _, _ => rfl
  | i :: is, q, h => by
    have e : askOne s m q i = q := by
      unfold askOne
      rw [if_neg]
      rcases h i (by simp) with c | c <;> rw [c] <;> simp
    rw [askAll, e]
    exact askAll_none is q (fun j hj => h j (by simp [hj]))
def linksOf : List Ob → List Int
  | [] => []
  | x :: m => x.links ++ linksOf m
def newsOf : List Up → List Int
  | [] => []
  | u :: us => (if u.new = 0 then [] else [u.new]) ++ newsOf us
theorem linksOf_append : ∀ (a b : List Ob), linksOf (a ++ b) = linksOf a ++ linksOf b
  | [], _ => rfl
  | x :: a, b => by rw [List.cons_append, linksOf, linksOf, linksOf_append a b, List.append_assoc]
theorem newsOf_append : ∀ (a b : List Up), newsOf (a ++ b) = newsOf a ++ newsOf b
  | [], _ => rfl
  | x :: a, b => by rw [List.cons_append, newsOf, newsOf, newsOf_append a b, List.append_assoc]
theorem linksOf_mem {i : Int} : ∀ {m : List Ob}, i ∈ linksOf m ↔ ∃ x ∈ m, i ∈ x.links
  | [] => by simp [linksOf]
  | x :: m => by
    rw [linksOf, List.mem_append, linksOf_mem]
    simp
theorem newsOf_mem {i : Int} : ∀ {us : List Up}, i ∈ newsOf us → ∃ u ∈ us, u.new ≠ 0 ∧ u.new = i
  | [], h => by cases h
  | u :: us, h => by
    rw [newsOf, List.mem_append] at h
    rcases h with h | h
    · split at h
      · cases h
      · rename_i c
        exact ⟨u, by simp, c, (List.mem_singleton.1 h).symm⟩
    · obtain ⟨v, hv, e⟩ := newsOf_mem h
      exact ⟨v, by simp [hv], e⟩
theorem linksOf_length : ∀ (m : List Ob), (∀ x ∈ m, x.links.length ≤ 4) → (linksOf m).length ≤ m.length * 4
  | [], _ => by simp [linksOf]
  | x :: m, h => by
    have h1 := linksOf_length m (fun y hy => h y (by simp [hy]))
    have h2 := h x (by simp)
    rw [linksOf, List.length_append, List.length_cons]; omega
theorem newsOf_length : ∀ (us : List Up), (newsOf us).length ≤ us.length
  | [] => by simp [newsOf]
  | u :: us => by
    have h1 := newsOf_length us
    rw [newsOf, List.length_append, List.length_cons]
    split <;> simp <;> omega
/-- what a push needs, as it comes up. -/
def needL (s m : List Ob) (us : List Up) : List Int := askAll s m (askAll s m [] (linksOf m)) (newsOf us)
def needsL (s m : List Ob) (us : List Up) : List Int := (needL s m us).mergeSort (fun x y => decide (x ≤ y))
def needsE (s m : List Ob) (us : List Up) : Int := if checkS s ≠ 0 then checkS s else pushE m us
theorem needsE_iff {s m : List Ob} {us : List Up} : needsE s m us = 0 ↔ checkS s = 0 ∧ pushE m us = 0 := by
  unfold needsE
  constructor
  · intro h
    split at h
    · rename_i c; exact absurd h c
    rename_i c
    exact ⟨Classical.byContradiction c, h⟩
  · rintro ⟨h1, h2⟩
    rw [if_neg (fun e => e h1), h2]
theorem needL_asked (s m : List Ob) (us : List Up) : Asked s m (needL s m us) := askAll_asked _ (askAll_asked _ ⟨(fun _ h => by cases h), List.nodup_nil⟩)
theorem needs_mem {s m : List Ob} {us : List Up} {i : Int} (h : i ∈ needsL s m us) : placeI s i = -1 ∧ placeI m i = -1 := by
  have h1 := (needL_asked s m us).1 i ((List.mergeSort_perm _ _).mem_iff.1 h)
  refine ⟨?_, ?_⟩
  · rcases placeI_cases s i with c | ⟨k, c, _⟩
    · exact c
    · have := h1.1; unfold hasO at this; rw [c] at this; simp at this
  · rcases placeI_cases m i with c | ⟨k, c, _⟩
    · exact c
    · have := h1.2; unfold hasO at this; rw [c] at this; simp at this
theorem needs_rise (s m : List Ob) (us : List Up) : (needsL s m us).Pairwise (fun x y => x < y) := by
  have h1 : (needsL s m us).Pairwise (fun x y => decide (x ≤ y) = true) := List.pairwise_mergeSort (fun a b c h1 h2 => by simp at *; omega) (fun a b => by simp; omega) _
  have h2 : (needsL s m us).Nodup := (List.mergeSort_perm _ _).nodup_iff.2 (needL_asked s m us).2
  have := List.Pairwise.and h1 h2
  exact this.imp fun q => by have := q.1; have := q.2; simp at *; omega
theorem needs_length {s m : List Ob} {us : List Up} (h : pushE m us = 0) : (needL s m us).length ≤ 100 := by
  obtain ⟨h1, h2, h3⟩ := pushE_iff.1 h
  have a1 := linksOf_length m (fun x hx => (checkE_zero (eachE_all h2 x hx)).2.2.1)
  have a2 := newsOf_length us
  have a3 := (checkU_iff.1 h3).2.1
  have a4 := askAll_length s m (newsOf us) (askAll s m [] (linksOf m))
  have a5 := askAll_length s m (linksOf m) []
  unfold needL
  simp at a5
  omega
/-- A PUSH THAT NEEDS SOMETHING IS REFUSED. -/
theorem try_needs {s : List Ob} {l : List Rf} {m : List Ob} {us : List Up} {f : Bool} (h : tryE s l m us f = 0) (t : List Ob) (ht : ∀ x ∈ takeRes s m, hasO t x.id = true ∨ hasO m x.id = true) : needsL t m us = [] := by
  obtain ⟨h1, h2, h3⟩ := tryE_iff.1 h
  obtain ⟨a1, a2, a3, a4, a5⟩ := addE_zero h2
  have key : ∀ i, (∃ x ∈ takeRes s m, x.id = i) → hasO t i = true ∨ hasO m i = true := fun i ⟨x, hx, e⟩ => by rw [← e]; exact ht x hx
  have e1 : askAll t m [] (linksOf m) = [] := askAll_none _ _ fun i hi => by
    obtain ⟨x, hx, hxi⟩ := linksOf_mem.1 hi
    obtain ⟨z, hz, ez⟩ := right_there a5 x (takeRes_new a4 x hx) i hxi
    exact key i ⟨z, hz, ez⟩
  have e2 : askAll t m [] (newsOf us) = [] := askAll_none _ _ fun i hi => by
    obtain ⟨u, hu, hz, e⟩ := newsOf_mem hi
    obtain ⟨q1, q2, q3, q4⟩ := applyE_iff.1 h3
    obtain ⟨c1, c2, c3, c4⟩ := checkU_iff.1 q2
    have hd := (runE_iff us (fun u hu => (c3 u hu).name) c4 (refs_sort q1)).1 q3 u hu
    obtain ⟨x, hx, ex⟩ := (mayE_new (hd.2 hz)).1
    exact key i ⟨x, hx, by rw [ex, e]⟩
  unfold needsL needL
  rw [e1, e2]
  simp
theorem try_needs_none {s : List Ob} {l : List Rf} {m : List Ob} {us : List Up} {f : Bool} (h : tryE s l m us f = 0) : needsL s m us = [] :=
  try_needs h s fun x hx => by
    rcases takeRes_mem hx with c | c
    · exact .inl (hasO_iff.2 ⟨x, c, rfl⟩)
    · exact .inr (hasO_iff.2 ⟨x, c, rfl⟩)
theorem try_needs_then {s : List Ob} {l : List Rf} {m : List Ob} {us : List Up} {f : Bool} (h : tryE s l m us f = 0) : needsE (takeRes s m) m us = 0 ∧ needsL (takeRes s m) m us = [] := by
  obtain ⟨h1, h2, h3⟩ := tryE_iff.1 h
  exact ⟨needsE_iff.2 ⟨(addE_zero h2).2.2.2.2, h1⟩, try_needs h _ fun x hx => .inl (hasO_iff.2 ⟨x, hx, rfl⟩)⟩
end

section
open Go.RowKit
set_option maxRecDepth 100000

set_option maxHeartbeats 400000 in
theorem has1_any (x : Ob) (sa : Option Addr) (sc : Nat) (id : Int) (p : Nat) (w : World) (hp : w.cell? ⟨p, 0, none⟩ = some (.int .i64 id)) (hlt : p < w.heap.size) :
    Calls Tryz.prog 96 #[x.val sa sc, .pointer (some ⟨p, 0, none⟩)] w fun e w' => e = .returned (.bool (x.id == id)) ∧ Below w.heap.size w w' := by
  go_enter Tryz.func96, Tryz.ntmps96
  go_wp2
  go_ret
  exact ⟨rfl, below_alloc _ _⟩

set_option maxHeartbeats 400000 in
theorem indexHas_any (a : Option Addr) (c : Nat) (l : List Ob) (id : Int) (p : Nat) (w : World) (h : HoldsS w a l) (hl : l.length ≤ 9223372036854775807) (hp : w.cell? ⟨p, 0, none⟩ = some (.int .i64 id)) (hlt : p < w.heap.size) :
    Calls Tryz.prog 71 #[.slice a l.length c, .func (.func 96) #[] #[.pointer (some ⟨p, 0, none⟩)]] w fun e w' => e = .returned (.int .i64 (placeI l id)) ∧ Below w.heap.size w w' := by
  go_enter Tryz.func71, Tryz.ntmps71
  go_wp2
  go_loopw [8] (fun i wr => ∃ k : Nat, i = .int .i64 k ∧ k ≤ l.length ∧ Below w.heap.size w wr ∧ Hid (∀ j (hj : j < l.length), j < k → (l[j].id == id) = false)) (fun i _ => l.length - (intOf i).toNat)
  case atStart => exact ⟨0, rfl, Nat.zero_le _, Below.refl _ _, fun j _ h => absurd h (Nat.not_lt_zero j)⟩
  case round =>
    obtain ⟨k, rfl, hk, hB, H⟩ := hrel
    by_cases hkl : k < l.length
    · obtain ⟨b, off, rfl, hb, hc⟩ := (h.below hB) k hkl
      obtain ⟨sa, sc, x0, x1, x2, x3, x4, x5⟩ := hc k hkl
      have hpr : wr.cell? ⟨p, 0, none⟩ = some (.int .i64 id) := (hB.cell (p := ⟨p, 0, none⟩) hlt).trans hp
      clear hc
      go_wp2_with fail
      refine (has1_any l[k] sa sc id p _ hpr (Nat.lt_of_lt_of_le hlt hB.size)).mono ?_
      rintro e w1 ⟨rfl, hb1⟩
      have hB1 := hB.trans (hb1.mono hB.size)
      clear hb1 x0 x1 x2 x3 x4 hpr
      by_cases hq : (l[k].id == id) = true
      · have HR : Hid (placeI l id = k) := findIdx_hit hkl H.out hq
        rw [hq]
        clear hq
        go_wp2
        go_ret
        exact ⟨ret_int HR.out.symm, hB1⟩
      · have hq' : (l[k].id == id) = false := by simpa using hq
        have HN : Hid (∀ j (hj : j < l.length), j < k + 1 → (l[j].id == id) = false) := fun j hj hjk => by
          rcases Nat.lt_or_ge j k with h1 | h1
          · exact H.out j hj h1
          · have : j = k := by omega
            subst this
            exact hq'
        rw [hq']
        clear hq hq'
        go_wp2
        go_roundw
        case rel => exact ⟨k + 1, by go_num, by omega, hB1, HN⟩
        case measure => simp [intOf]; omega
    · have HR : Hid (placeI l id = -1) := findIdx_miss (fun j hj => H.out j hj (by omega))
      go_wp2
      go_ret
      exact ⟨ret_int HR.out.symm, hB⟩


set_option maxHeartbeats 400000 in
theorem containsHas_any (a : Option Addr) (c : Nat) (l : List Ob) (id : Int) (p : Nat) (w : World) (h : HoldsS w a l) (hl : l.length ≤ 9223372036854775807) (hp : w.cell? ⟨p, 0, none⟩ = some (.int .i64 id)) (hlt : p < w.heap.size) :
    Calls Tryz.prog 95 #[.slice a l.length c, .func (.func 96) #[] #[.pointer (some ⟨p, 0, none⟩)]] w fun e w' => e = .returned (.bool (decide (0 ≤ placeI l id))) ∧ Below w.heap.size w w' := by
  go_enter Tryz.func95, Tryz.ntmps95
  go_wp2_with fail
  refine (indexHas_any a c l id p w h hl hp hlt).mono ?_
  rintro e w1 ⟨rfl, hb⟩
  go_wp2
  go_ret
  exact ⟨rfl, hb⟩


set_option maxHeartbeats 400000 in
theorem has_any (a : Option Addr) (c : Nat) (l : List Ob) (id : Int) (w : World) (h : HoldsS w a l) (hl : l.length ≤ 9223372036854775807) :
    Calls Tryz.prog 62 #[.slice a l.length c, .int .i64 id] w fun e w' => e = .returned (.bool (hasO l id)) ∧ Below w.heap.size w w' := by
  have hmf : ∀ (fn : Fn) (first cap : Array Value) (w : World), (Instr.makeFunc fn first cap).run Tryz.prog w = .ok (.func fn first cap) w := fun _ _ _ _ => rfl
  have hA := below_alloc w (.cells #[.int .i64 id] 3)
  have hbk := heap_alloc_new w (.cells #[.int .i64 id] 3)
  have hco := containsHas_any a c l id w.heap.size _ (h.below hA) hl (c1_of hbk) (heap_lt hbk)
  go_enter Tryz.func62, Tryz.ntmps62
  go_wp2_with fail
  refine hco.mono ?_
  clear hco
  rintro e w1 ⟨rfl, hb⟩
  have hB := hA.trans (hb.mono hA.size)
  clear hA hbk hb
  go_wp2
  go_ret
  exact ⟨rfl, hB⟩

/-- append of one number onto a row of one's own; the new row is the old one's block or a new block. -/
theorem app_int (w : World) (base : Nat) (ty : TypeId) (v : Value) (n : Nat) (xs : List Value) (hown : w.ownsRow base 3 1 v n xs) (vb : Nat) (ys : Array Value) (hv : w.heap[vb]? = some (.cells ys 3)) (hys : ys.size = 1)
    (h2 : ∀ v ∈ ys.toList, v.oneCell' = true) (hn : n ≤ 1000) (hbase : base ≤ w.heap.size) :
    ∃ v' w', (Builtin.append_ #[29, 29] ty #[v, .slice (some ⟨vb, 0, none⟩) 1 1]).run Tryz.prog w = .ok v' w' ∧ w'.ownsRow base 3 1 v' (n + 1) (xs ++ ys.toList) ∧ w.grownBy w' v.ownBlock ∧ ∀ k, v'.ownBlock = some k → v.ownBlock = some k ∨ w.heap.size ≤ k := by
  obtain ⟨i0, hi0, hz0, hzs, hzb⟩ := info_parts Tryz.info3
  have hl : ys.toList.length = 1 * 1 := by rw [Array.length_toList, hys]
  have hnews := World.news_of_block hv
  obtain ⟨v', w', hr, q1, q2, _⟩ := run_append_own (P := Tryz.prog) w base 29 ty 3 i0 _ 1 8 Tryz.underlying29 hi0 hz0 hzs hzb rfl (by omega) v n xs hown ⟨vb, 0, none⟩ 1 1 ys.toList hl hnews h2 (by unfold maxLen; omega) (by omega) hbase
  refine ⟨v', w', hr, q1, q2, ?_⟩
  rcases hown.2 with ⟨rfl, rfl⟩ | ⟨g, cap, cur, rfl, hbg, hg, hnc, hcm, hcs, htake⟩
  · obtain ⟨v2, w2, hr2, p1, _, _⟩ := run_append_own (P := Tryz.prog) w w.heap.size 29 ty 3 i0 _ 1 8 Tryz.underlying29 hi0 hz0 hzs hzb rfl (by omega) _ 0 [] (World.ownsRow_nil _ _ _ _) ⟨vb, 0, none⟩ 1 1 ys.toList hl hnews h2 (by unfold maxLen; omega) (by omega) (Nat.le_refl _)
    rw [hr] at hr2
    cases hr2
    exact fun k hk => .inr (p1.lt k hk).1
  · by_cases hroom : n + 1 ≤ cap
    · have hr2 := run_append_room (P := Tryz.prog) w 29 ty 3 i0 Tryz.underlying29 hi0 g n cap cur hg ⟨vb, 0, none⟩ 1 1 ys.toList (by rw [hzs]; exact hl) hnews h2 hroom (by rw [hzs, hl]; omega)
      rw [hr] at hr2
      cases hr2
      exact fun k hk => .inl hk
    · have hr2 := run_append_grow (P := Tryz.prog) w 29 ty 3 i0 _ Tryz.underlying29 hi0 hz0 ⟨g, 0, none⟩ n cap xs (by rw [hzs]; exact hown.1) (hown.cells (g := g) rfl) ⟨vb, 0, none⟩ 1 1 ys.toList (by rw [hzs]; exact hl) hnews (by omega) (by omega) (by rw [hzb]; exact growslice_fits (by omega) (by omega))
      rw [hr] at hr2
      cases hr2
      exact fun k hk => .inr (by simp [Value.ownBlock] at hk; omega)

/-- a need at q: its row lies above base. -/
structure Need (base : Nat) (w : World) (q : Nat) (v : Value) (l : List Int) (x0 x1 : Value) : Prop where
  blk : w.heap[q]? = some (.cells #[x0, x1, v] 64)
  le : base ≤ q
  own : w.ownsRow base 3 1 v l.length (l.map (Value.int .i64))
  ne : v.ownBlock ≠ some q
theorem Need.lt {base : Nat} {w : World} {q : Nat} {v : Value} {l : List Int} {x0 x1 : Value} (h : Need base w q v l x0 x1) : q < w.heap.size := heap_lt h.blk
theorem Need.below {base : Nat} {w w' : World} {q : Nat} {v : Value} {l : List Int} {x0 x1 : Value} (h : Need base w q v l x0 x1) (hb : Below w.heap.size w w') : Need base w' q v l x0 x1 :=
  ⟨(hb.block q h.lt).trans h.blk, h.le, ownsRow_kept h.own (fun g hg => hb.block g (h.own.lt g hg).2), h.ne⟩
theorem Need.next {base : Nat} {w w1 w2 : World} {q : Nat} {v v' : Value} {l l' : List Int} {x0 x1 : Value} (h : Need base w q v l x0 x1) (hb : Below w.heap.size w w1) (hg : w1.grownBy w2 v.ownBlock) (ho : w2.ownsRow base 3 1 v' l'.length (l'.map (Value.int .i64))) (hk : v'.ownBlock ≠ some q) :
    Need base (w2.setCell ⟨q, 2, none⟩ v') q v' l' x0 x1 ∧ Below base w (w2.setCell ⟨q, 2, none⟩ v') ∧ ∀ k, k < w.heap.size → k ≠ q → v.ownBlock ≠ some k → (w2.setCell ⟨q, 2, none⟩ v').heap[k]? = w.heap[k]? := by
  have h1 := h.below hb
  have hpl := h.lt
  have hle := h.le
  have hbp : w2.heap[q]? = some (.cells #[x0, x1, v] 64) := (hg.block q h1.lt (fun e => h.ne e.symm)).trans h1.blk
  have hoth : ∀ k, k ≠ q → (w2.setCell ⟨q, 2, none⟩ v').heap[k]? = w2.heap[k]? := fun k hk => heap_setCell_other w2 ⟨q, 2, none⟩ k v' hk
  have hsz : (w2.setCell ⟨q, 2, none⟩ v').heap.size = w2.heap.size := World.size_setCell _ _ _
  have hs1 := hb.size
  have hs2 := hg.size
  refine ⟨⟨?_, h.le, ?_, hk⟩, ?_, fun k hk1 hk2 hk3 => ?_⟩
  · have := heap_setCell_same w2 q 2 #[x0, x1, v] 64 v' hbp
    simpa using this
  · exact ownsRow_kept ho (fun g e => hoth g (fun q => hk (by rw [← q]; exact e)))
  · refine ⟨hg.os.trans hb.os, hg.tape.trans hb.tape, hg.output.trans hb.output, by omega, fun k hk' => ?_⟩
    rw [hoth k (by omega), hg.block k (by omega) (fun e => by have := (h.own.lt k e.symm).1; omega)]
    exact hb.block k (by omega)
  · rw [hoth k hk2, hg.block k (by omega) (fun e => hk3 e.symm)]
    exact hb.block k hk1

theorem ownI_reads {w : World} {base : Nat} {v : Value} {xs : List Int} (h : w.ownsRow base 3 1 v xs.length (xs.map (Value.int .i64))) : ∃ a c, v = .slice a xs.length c ∧ Holds w a xs := by
  rcases h.2 with ⟨rfl, e⟩ | ⟨g, cap, cur, rfl, h1, h2, h3, h4, h5, h6⟩
  · rw [e]
    exact ⟨none, 0, rfl, fun i hi => by omega⟩
  · refine ⟨_, _, rfl, fun i hi => ⟨g, 0, rfl, heap_lt h2, fun k hk => ?_⟩⟩
    have hc : cur[k]? = (xs.map (Value.int .i64))[k]? := by rw [← h6, List.getElem?_take, if_pos (by omega)]; simp
    rw [cell_of_row w g _ _ _ _ h2, Nat.zero_add, hc, List.getElem?_map, List.getElem?_eq_getElem hk]
    simp [hk]

/-- where ids lie that are asked for: not in the need, nor in its row. -/
def Off (w : World) (q : Nat) (v : Value) (ai : Option Addr) (ids : List Int) : Prop := Holds w ai ids ∧ ∀ b off, ai = some ⟨b, off, none⟩ → 0 < ids.length → b ≠ q ∧ v.ownBlock ≠ some b
theorem Off.below {w w' : World} {q : Nat} {v : Value} {ai : Option Addr} {ids : List Int} (h : Off w q v ai ids) (hb : Below w.heap.size w w') : Off w' q v ai ids := ⟨h.1.below hb, h.2⟩

set_option maxHeartbeats 4000000 in
theorem ask_any (base q : Nat) (v : Value) (l : List Int) (aS : Option Addr) (cs : Nat) (s : List Ob) (am : Option Addr) (cm : Nat) (m : List Ob) (ai : Option Addr) (ci : Nat) (ids : List Int) (w0 w : World) (hB0 : Below w0.heap.size w0 w) (hb0 : w0.heap.size ≤ base) (hs : HoldsS w0 aS s) (hsl : s.length ≤ 9223372036854775807) (hm : HoldsS w0 am m) (hml : m.length ≤ 9223372036854775807)
    (ND : Need base w q v l (.slice aS s.length cs) (.slice am m.length cm)) (hi : Off w q v ai ids) (hl : l.length + ids.length ≤ 900) :
    Calls Tryz.prog 29 #[.pointer (some ⟨q, 0, none⟩), .slice ai ids.length ci] w fun e w' => e = .returned (.tuple #[]) ∧ (∃ v', Need base w' q v' (askAll s m l ids) (.slice aS s.length cs) (.slice am m.length cm)) ∧ Below base w w' := by
  have hbw : base ≤ w.heap.size := Nat.le_of_lt (Nat.lt_of_le_of_lt ND.le ND.lt)
  go_enter Tryz.func29, Tryz.ntmps29
  go_wp2
  go_loopw [8] (fun i wr => ∃ (k : Nat) (v : Value) (L : List Int), i = .int .i64 k ∧ k ≤ ids.length ∧ L.length ≤ l.length + k ∧ Need base wr q v L (.slice aS s.length cs) (.slice am m.length cm) ∧ Off wr q v ai ids ∧ Below base w wr ∧ Hid (askAll s m l ids = askAll s m L (ids.drop k))) (fun i _ => ids.length - (intOf i).toNat)
  case atStart => exact ⟨0, v, l, rfl, Nat.zero_le _, by omega, ND, hi, Below.refl _ _, rfl⟩
  case round =>
    clear ND hi
    obtain ⟨k, v, L, rfl, hk, hLk, ND, hi, hBr, H⟩ := hrel
    have hBw := hB0.trans (hBr.mono hb0)
    have hbr : base ≤ wr.heap.size := Nat.le_trans hbw hBr.size
    by_cases hlt : k < ids.length
    · have hlt' : (k : Int) < (ids.length : Int) := by omega
      obtain ⟨b, off, rfl, hb, hc⟩ := hi.1 k hlt
      have x0 := hc k hlt
      rw [List.getD_eq_getElem?_getD, List.getElem?_eq_getElem hlt] at x0
      have x0' : wr.cell? ⟨b, off + k, none⟩ = some (.int .i64 ids[k]) := x0
      clear hc x0
      have HD : Hid (askAll s m l ids = askAll s m (askOne s m L ids[k]) (ids.drop (k + 1))) := by unfold Hid; rw [H.out, List.drop_eq_getElem_cons hlt, askAll]
      have HLn : Hid ((askOne s m L ids[k]).length ≤ l.length + (k + 1)) := by unfold Hid; have := askOne_length s m L ids[k]; omega
      obtain ⟨x, hx⟩ : ∃ x, x = ids[k] := ⟨_, rfl⟩
      rw [← hx] at x0' HD HLn
      have HO : Hid (askOne s m L x = if (!hasO s x && !hasO m x && !decide (x ∈ L)) = true then L ++ [x] else L) := rfl
      clear hx H
      obtain ⟨y0, y1, y2⟩ := c3_of ND.blk
      have hh1 := has_any aS cs s x wr (hs.below hBw) hsl
      go_wp2_with fail
      refine hh1.mono ?_
      clear hh1
      rintro e w1 ⟨rfl, hb1⟩
      have N1 := ND.below hb1
      have hi1 := hi.below hb1
      have hB1 := hBr.trans (hb1.mono hbr)
      have hBw1 := hBw.trans (hb1.mono hBw.size)
      clear hb1 ND hi hBr hBw y0 y1 y2 x0' hb hbr
      have hbr1 : base ≤ w1.heap.size := Nat.le_of_lt (Nat.lt_of_le_of_lt N1.le N1.lt)
      cases k1 : hasO s x with
      | true =>
        have HO2 : Hid (askOne s m L x = L) := by unfold Hid; rw [HO.out, k1]; rfl
        clear k1
        go_wp2
        go_roundw
        case rel => exact ⟨k + 1, v, L, by go_num, by omega, by omega, N1, hi1, hB1, by unfold Hid; rw [HD.out, HO2.out]⟩
        case measure => simp [intOf]; omega
      | false =>
      have HO1 : Hid (askOne s m L x = if (!hasO m x && !decide (x ∈ L)) = true then L ++ [x] else L) := by unfold Hid; rw [HO.out, k1]; rfl
      clear k1 HO
      obtain ⟨y0, y1, y2⟩ := c3_of N1.blk
      have hh2 := has_any am cm m x w1 (hm.below hBw1) hml
      go_wp2_with fail
      refine hh2.mono ?_
      clear hh2
      rintro e w2 ⟨rfl, hb2⟩
      have N2 := N1.below hb2
      have hi2 := hi1.below hb2
      have hB2 := hB1.trans (hb2.mono hbr1)
      have hBw2 := hBw1.trans (hb2.mono hBw1.size)
      clear hb2 N1 hi1 hB1 hBw1 y0 y1 y2 hbr1
      have hbr2 : base ≤ w2.heap.size := Nat.le_of_lt (Nat.lt_of_le_of_lt N2.le N2.lt)
      cases k2 : hasO m x with
      | true =>
        have HO2 : Hid (askOne s m L x = L) := by unfold Hid; rw [HO1.out, k2]; rfl
        clear k2
        go_wp2
        go_roundw
        case rel => exact ⟨k + 1, v, L, by go_num, by omega, by omega, N2, hi2, hB2, by unfold Hid; rw [HD.out, HO2.out]⟩
        case measure => simp [intOf]; omega
      | false =>
      have HO3 : Hid (askOne s m L x = if (!decide (x ∈ L)) = true then L ++ [x] else L) := by unfold Hid; rw [HO1.out, k2]; rfl
      clear k2 HO1
      obtain ⟨aL, cL, hv, hL⟩ := ownI_reads N2.own
      subst hv
      obtain ⟨y0, y1, y2⟩ := c3_of N2.blk
      have hh3 := contains_any aL cL L x w2 hL (by omega)
      go_wp2_with fail
      refine hh3.mono ?_
      clear hh3
      rintro e w3 ⟨rfl, hb3⟩
      have N3 := N2.below hb3
      have hi3 := hi2.below hb3
      have hB3 := hB2.trans (hb3.mono hbr2)
      clear hb3 N2 hi2 hB2 hBw2 y0 y1 y2 hL
      have hbr3 : base ≤ w3.heap.size := Nat.le_of_lt (Nat.lt_of_le_of_lt N3.le N3.lt)
      cases k3 : decide (x ∈ L) with
      | true =>
        have HO2 : Hid (askOne s m L x = L) := by unfold Hid; rw [HO3.out, k3]; rfl
        clear k3
        go_wp2
        go_roundw
        case rel => exact ⟨k + 1, _, L, by go_num, by omega, by omega, N3, hi3, hB3, by unfold Hid; rw [HD.out, HO2.out]⟩
        case measure => simp [intOf]; omega
      | false =>
      have HO2 : Hid (askOne s m L x = L ++ [x]) := by unfold Hid; rw [HO3.out, k3]; rfl
      clear k3 HO3
      generalize Value.slice aL L.length cL = v3 at *
      obtain ⟨y0, y1, y2⟩ := c3_of N3.blk
      have zf := f_of (o := 2) N3.blk
      have hA4 := below_alloc w3 (.cells #[.int .i64 x] 3)
      have hk4 := heap_alloc_new w3 (.cells #[.int .i64 x] 3)
      have N4 := N3.below hA4
      obtain ⟨v5, W5, hr5, ho5, hg5, hk5⟩ := app_int _ base 29 _ L.length (L.map (Value.int .i64)) N4.own w3.heap.size _ hk4 rfl (by intro u hu; simp only [List.mem_cons, List.not_mem_nil, or_false] at hu; rcases hu with rfl; rfl) (by omega) (Nat.le_trans hbr3 hA4.size)
      obtain ⟨g5, m5, c5, rfl⟩ := own_slice_g ho5
      have hne5 : (Value.slice g5 m5 c5).ownBlock ≠ some q := fun e => by
        rcases hk5 q e with z | z
        · exact N4.ne z
        · have := N4.lt; omega
      obtain ⟨N5, hB5, hoth⟩ := N3.next (l' := L ++ [x]) hA4 hg5 (by rw [List.length_append, List.map_append]; exact ho5) hne5
      have hp5 := (hg5.block _ N4.lt (fun e => N4.ne e.symm)).trans N4.blk
      have zc5 := (c3_of hp5).2.2
      have zf5 := f_of (o := 2) hp5
      have hi5 : Off (W5.setCell ⟨q, 2, none⟩ (.slice g5 m5 c5)) q (.slice g5 m5 c5) (some ⟨b, off, none⟩) ids := by
        have hbb := hi3.2 b off rfl (by omega)
        have hbl : b < w3.heap.size := by
          obtain ⟨b', off', e, hbl, _⟩ := hi3.1 k hlt
          cases e; exact hbl
        refine ⟨?_, fun b' off' e h0 => ?_⟩
        · intro i hi'
          obtain ⟨b', off', e, _, hc⟩ := hi3.1 i hi'
          cases e
          refine ⟨b, off, rfl, by have := hB5.size; omega, fun j hj => ?_⟩
          rw [World.cell?_of_block (a := ⟨b, off + j, none⟩) (hoth b hbl hbb.1 hbb.2)]
          exact hc j hj
        · cases e
          refine ⟨hbb.1, fun e => ?_⟩
          rcases hk5 b e with z | z
          · exact hbb.2 z
          · have := hA4.size; omega
      have hB6 := hB3.trans (hB5)
      have HF : Hid (_ ∧ _ ∧ _) := ⟨N5, hi5, hB6⟩
      clear N5 hB5 hoth hi5 hB6 hne5 hk5 hg5 ho5 N4 hk4 hA4 hi3 hB3 N3
      go_wp2_with (at_builtin; refine wpList_append_g (by rfl) (.tmp 41) (.tmp 43) (by rfl) _ _ (by rfl) (by rfl) hr5 ?_)
      go_roundw
      case rel => exact ⟨k + 1, _, L ++ [x], by go_num, by omega, by rw [← HO2.out]; exact HLn.out, HF.out.1, HF.out.2.1, HF.out.2.2, by unfold Hid; rw [HD.out, HO2.out]⟩
      case measure => simp [intOf]; omega
    · have HR : Hid (askAll s m l ids = L) := by unfold Hid; rw [H.out, List.drop_of_length_le (by omega)]; rfl
      go_wp2
      refine bodyPost_end (results_none rfl _ _ _) rfl ?_
      exact ⟨rfl, ⟨v, by rw [HR.out]; exact ND⟩, hBr⟩
end

section
open Go.RowKit
set_option maxRecDepth 100000

theorem putRow_blockI (w : World) (n g : Nat) (d : Array Int) (cur : Array Value) (t : TypeId) (os : Array Obj) (hg : w.heap[g]? = some (.cells cur t)) (hs : d.size ≤ cur.size) :
    ∃ cur', (Sort.grow (Sort.putRow (Value.int .i64) (Sort.ahead w n) g 0 d) os).heap[g]? = some (.cells cur' t) ∧ cur'.size = cur.size ∧ cur'.toList.take d.size = d.toList.map (Value.int .i64) := by
  refine ⟨Sort.putCells (Value.int .i64) 0 d cur, ?_, by simp [Sort.putCells], ?_⟩
  · rw [Sort.heap_grow_old _ _ (by simpa using heap_lt hg)]
    show ((w.heap.modify g (Sort.onCells (Sort.putCells (Value.int .i64) 0 d))))[g]? = _
    rw [Array.getElem?_modify, if_pos rfl, hg]
    rfl
  · apply List.ext_getElem?
    intro k
    rw [List.getElem?_take]
    by_cases hk : k < d.size
    · rw [if_pos hk]
      simp only [Sort.putCells, Array.toList_mapIdx, List.getElem?_mapIdx]
      rw [List.getElem?_eq_getElem (by rw [Array.length_toList]; omega)]
      simp [hk]
    · rw [if_neg hk, List.getElem?_eq_none (by rw [List.length_map, Array.length_toList]; omega)]
theorem putRow_grownI (w : World) (n g : Nat) (d : Array Int) (os : Array Obj) : w.grownBy (Sort.grow (Sort.putRow (Value.int .i64) (Sort.ahead w n) g 0 d) os) (some g) := by
  refine ⟨rfl, rfl, rfl, by simp, fun k hk hne => ?_⟩
  rw [Sort.heap_grow_old _ _ (by simpa using hk)]
  show ((w.heap.modify g (Sort.onCells (Sort.putCells (Value.int .i64) 0 d))))[k]? = _
  rw [Array.getElem?_modify, if_neg (fun e => hne (by rw [e]))]

theorem sortI_any (base : Nat) (v : Value) (l : List Int) (w : World) (hown : w.ownsRow base 3 1 v l.length (l.map (Value.int .i64))) (hl : l.length ≤ 900) :
    Calls Tryz.prog 31 #[v] w fun e w' => e = .returned (.tuple #[]) ∧ w'.ownsRow base 3 1 v l.length ((l.mergeSort fun x y => decide (x ≤ y)).map (Value.int .i64)) ∧ w.grownBy w' v.ownBlock := by
  by_cases h0 : l = []
  · subst h0
    obtain ⟨a, c, rfl, _⟩ := ownI_reads hown
    refine (Any.slices_Sort_int_none Tryz.lays189 a c w).mono ?_
    rintro e w' ⟨he, rfl⟩
    exact ⟨he, by simpa using hown, below_grown (Below.refl _ _)⟩
  · have hpos : 0 < l.length := List.length_pos_iff.2 h0
    obtain ⟨g, cap, cur, rfl, q1, q2, q3, q4, q5, q6⟩ : ∃ g cap cur, v = .slice (some ⟨g, 0, none⟩) l.length cap ∧ base ≤ g ∧ w.heap[g]? = some (.cells cur 3 (0, 0)) ∧ l.length ≤ cap ∧ cap ≤ maxLen ∧ cur.size = cap * 1 ∧ cur.toList.take (l.length * 1) = l.map (Value.int .i64) := by
      rcases hown.2 with ⟨_, e⟩ | h
      · omega
      · exact h
    have hH : Sort.Holds (Value.int .i64) w g 0 l.toArray := by
      intro j hj
      have hj' : j < l.length := by simpa using hj
      refine ⟨?_, f_of q2⟩
      have h2 : cur[j]? = (l.map (Value.int .i64))[j]? := by rw [← q6, List.getElem?_take, if_pos (by omega)]; simp
      rw [cell_of_row w _ _ _ _ _ q2, Nat.zero_add, h2, List.getElem?_map, List.getElem?_eq_getElem hj', getElem!_pos l.toArray j hj]
      rfl
    refine (Tryz.slices_Sort_int g 0 cap l w hH (heap_lt q2) (by omega)).mono ?_
    rintro e w' ⟨he, n, os, rfl⟩
    have hml : (l.mergeSort fun x y => decide (x ≤ y)).length = l.length := List.length_mergeSort _
    obtain ⟨cur', r1, r2, r3⟩ := putRow_blockI w n g (l.mergeSort fun x y => decide (x ≤ y)).toArray cur 3 os q2 (by rw [List.size_toArray, hml, q5]; omega)
    refine ⟨he, ⟨by rw [List.length_map, hml]; omega, .inr ⟨g, cap, cur', rfl, q1, r1, q3, q4, by rw [r2, q5], ?_⟩⟩, putRow_grownI w n g _ os⟩
    rw [List.size_toArray, hml] at r3
    rw [Nat.mul_one, r3]

theorem newsOf_one (u : Up) : newsOf [u] = if u.new = 0 then [] else [u.new] := by simp [newsOf]

set_option maxHeartbeats 1000000 in
theorem askNew_any (base q : Nat) (v : Value) (l : List Int) (aS : Option Addr) (cs : Nat) (s : List Ob) (am : Option Addr) (cm : Nat) (m : List Ob) (u : Up) (w0 w : World) (hB0 : Below w0.heap.size w0 w) (hb0 : w0.heap.size ≤ base) (hs : HoldsS w0 aS s) (hsl : s.length ≤ 9223372036854775807) (hm : HoldsS w0 am m) (hml : m.length ≤ 9223372036854775807)
    (ND : Need base w q v l (.slice aS s.length cs) (.slice am m.length cm)) (hl : l.length ≤ 800) :
    Calls Tryz.prog 30 #[.pointer (some ⟨q, 0, none⟩), u.val] w fun e w' => e = .returned (.tuple #[]) ∧ (∃ v', Need base w' q v' (askAll s m l (newsOf [u])) (.slice aS s.length cs) (.slice am m.length cm)) ∧ Below base w w' := by
  have hbw : base ≤ w.heap.size := Nat.le_of_lt (Nat.lt_of_le_of_lt ND.le ND.lt)
  have hA := below_alloc w (.cells #[.string u.name, .int .i64 u.old, .int .i64 u.new] 45)
  have hbk := heap_alloc_new w (.cells #[.string u.name, .int .i64 u.old, .int .i64 u.new] 45)
  obtain ⟨y0, y1, y2⟩ := c3_of hbk
  by_cases hz : u.new = 0
  · have HF : Hid ((∃ v', Need base (w.alloc (.cells #[.string u.name, .int .i64 u.old, .int .i64 u.new] 45)) q v' (askAll s m l (newsOf [u])) (.slice aS s.length cs) (.slice am m.length cm)) ∧ Below base w (w.alloc (.cells #[.string u.name, .int .i64 u.old, .int .i64 u.new] 45))) := by
      rw [newsOf_one, if_pos hz]
      exact ⟨⟨v, ND.below hA⟩, hA.mono hbw⟩
    have z : (u.new != 0) = false := by simpa using hz
    clear hz hA hbk ND
    go_enter Tryz.func30, Tryz.ntmps30
    go_wp2
    refine bodyPost_end (results_none rfl _ _ _) rfl ?_
    exact ⟨rfl, HF.out.1, HF.out.2⟩
  · have HN : Hid (newsOf [u] = [u.new]) := by unfold Hid; rw [newsOf_one, if_neg hz]
    have z : (u.new != 0) = true := by simpa using hz
    obtain ⟨W, hW⟩ : ∃ W, W = w.alloc (.cells #[.string u.name, .int .i64 u.old, .int .i64 u.new] 45) := ⟨_, rfl⟩
    rw [← hW] at hA hbk y0 y1 y2
    have hA2 := below_alloc W (.cells #[.int .i64 u.new] 3)
    have hBq := hA.trans (hA2.mono hA.size)
    have N2 := ND.below hBq
    have hof : Off (W.alloc (.cells #[.int .i64 u.new] 3)) q v (some ⟨W.heap.size, 0, none⟩) [u.new] := by
      refine ⟨holds_one W u.new, fun b off e _ => ?_⟩
      cases e
      have := hA.size
      refine ⟨by have := ND.lt; omega, fun e => by have := (ND.own.lt _ e).2; omega⟩
    have hask := ask_any base q v l aS cs s am cm m (some ⟨W.heap.size, 0, none⟩) 1 [u.new] w0 _ (hB0.trans (hBq.mono hB0.size)) hb0 hs hsl hm hml N2 hof (by simp; omega)
    rw [hW] at hask hBq y0 y1 y2
    rw [show (w.alloc (.cells #[.string u.name, .int .i64 u.old, .int .i64 u.new] 45)).heap.size = w.heap.size + 1 by simp] at hask
    clear hz hA hbk ND N2 hof hA2 hW
    go_enter Tryz.func30, Tryz.ntmps30
    go_wp2_with fail
    refine hask.mono ?_
    clear hask
    rintro e w1 ⟨rfl, hN1, hb1⟩
    have HF : Hid ((∃ v', Need base w1 q v' (askAll s m l (newsOf [u])) (.slice aS s.length cs) (.slice am m.length cm)) ∧ Below base w w1) := ⟨by rw [HN.out]; exact hN1, (hBq.mono hbw).trans hb1⟩
    clear hN1 hb1 hBq y0 y1 y2
    go_wp2
    refine bodyPost_end (results_none rfl _ _ _) rfl ?_
    exact ⟨rfl, HF.out.1, HF.out.2⟩

/-- what Needs hands back. -/
def NeedsPost (s m : List Ob) (us : List Up) (w : World) (e : Ending) (w' : World) : Prop :=
  Below w.heap.size w w' ∧ ((needsE s m us ≠ 0 ∧ e = .returned (.tuple #[.slice none 0 0, .int .i64 (needsE s m us)])) ∨
    (needsE s m us = 0 ∧ ∃ a c, e = .returned (.tuple #[.slice a (needsL s m us).length c, .int .i64 0]) ∧ Holds w' a (needsL s m us)))
theorem NeedsPost.bad {s m : List Ob} {us : List Up} {w w' : World} {r : Int} (hr : needsE s m us = r) (h0 : r ≠ 0) (hb : Below w.heap.size w w') : NeedsPost s m us w (.returned (.tuple #[.slice none 0 0, .int .i64 r])) w' :=
  ⟨hb, .inl ⟨by rw [hr]; exact h0, by rw [hr]⟩⟩

set_option maxHeartbeats 4000000 in
theorem needs_any (aS : Option Addr) (cs : Nat) (s : List Ob) (am : Option Addr) (cm : Nat) (m : List Ob) (au : Option Addr) (cu : Nat) (us : List Up) (f : Bool) (w : World) (hg : Glob w) (hs : HoldsS w aS s) (hsl : s.length ≤ 9223372036854775807) (hm : HoldsS w am m) (hml : m.length ≤ 9223372036854775807) (hu : HoldsU w au us) (hul : us.length ≤ 9223372036854775807) :
    Calls Tryz.prog 9 #[.slice aS s.length cs, pushV am m.length cm au us.length cu f] w (NeedsPost s m us w) := by
  have HE : Hid (needsE s m us = if checkS s ≠ 0 then checkS s else pushE m us) := rfl
  have hA := below_alloc w (.cells #[.slice am m.length cm, .slice au us.length cu, .bool f] 26)
  have hbk := heap_alloc_new w (.cells #[.slice am m.length cm, .slice au us.length cu, .bool f] 26)
  have hcs := checkS_any aS cs s _ (hs.below hA) hsl
  go_enter Tryz.func9, Tryz.ntmps9
  go_wp2_with fail
  refine hcs.mono ?_
  clear hcs
  rintro e w1 ⟨rfl, hb1⟩
  have hB1 := hA.trans (hb1.mono hA.size)
  have hk1 := (hb1.block _ (heap_lt hbk)).trans hbk
  clear hb1 hA hbk
  by_cases k1 : checkS s = 0
  case neg =>
    have HR : Hid (needsE s m us = checkS s) := by unfold Hid; rw [HE.out, if_pos k1]
    have HF : Hid (NeedsPost s m us w (.returned (.tuple #[.slice none 0 0, .int .i64 (checkS s)])) w1) := NeedsPost.bad HR.out k1 hB1
    have z1 : (checkS s != 0) = true := by simpa using k1
    clear k1 hk1
    go_wp2
    refine bodyPost_ret (v := .tuple #[.slice none 0 0, .int .i64 (checkS s)]) (by simp [results, Tryz.results9, go_sem]) rfl ?_
    exact HF.out
  have HE1 : Hid (needsE s m us = pushE m us) := by unfold Hid; rw [HE.out, if_neg (fun e => e k1)]
  rw [k1]
  clear k1 HE
  obtain ⟨y0, y1, y2⟩ := c3_of hk1
  have hpc := pcheck_any am cm m au cu us f w1 (hg.below hB1) (hm.below hB1) hml (hu.below hB1) hul
  go_wp2_with fail
  refine hpc.mono ?_
  clear hpc
  rintro e w2 ⟨rfl, hb2⟩
  have hB2 := hB1.trans (hb2.mono hB1.size)
  have hk2 := (hb2.block _ (heap_lt hk1)).trans hk1
  clear hb2 hB1 hk1 y0 y1 y2
  by_cases k2 : pushE m us = 0
  case neg =>
    have HF : Hid (NeedsPost s m us w (.returned (.tuple #[.slice none 0 0, .int .i64 (pushE m us)])) w2) := NeedsPost.bad HE1.out k2 hB2
    have z1 : (pushE m us != 0) = true := by simpa using k2
    clear k2 hk2
    go_wp2
    refine bodyPost_ret (v := .tuple #[.slice none 0 0, .int .i64 (pushE m us)]) (by simp [results, Tryz.results9, go_sem]) rfl ?_
    exact HF.out
  have HZ : Hid (needsE s m us = 0) := HE1.out.trans k2
  have HP : Hid (pushE m us = 0) := k2
  have HL4 : Hid (∀ x ∈ m, x.links.length ≤ 4) := fun x hx => (checkE_zero (eachE_all (pushE_iff.1 k2).2.1 x hx)).2.2.1
  have h12 : m.length ≤ 12 := (pushE_iff.1 k2).1
  have h4 : us.length ≤ 4 := (checkU_iff.1 (pushE_iff.1 k2).2.2).2.1
  rw [k2]
  clear k2 HE1
  obtain ⟨y0, y1, y2⟩ := c3_of hk2
  have hA3 := below_alloc w2 (.cells #[.slice aS s.length cs, .slice am m.length cm, .slice none 0 0] 64)
  have hB3 := hB2.trans (hA3.mono hB2.size)
  have N3 : Need w2.heap.size (w2.alloc (.cells #[.slice aS s.length cs, .slice am m.length cm, .slice none 0 0] 64)) w2.heap.size (.slice none 0 0) [] (.slice aS s.length cs) (.slice am m.length cm) :=
    ⟨heap_alloc_new w2 _, Nat.le_refl _, World.ownsRow_nil _ _ _ _, fun e => by cases e⟩
  have hk3 := (hA3.block _ (heap_lt hk2)).trans hk2
  obtain ⟨v0, v1, v2⟩ := c3_of hk3
  have hwl : w.heap.size < w2.heap.size := heap_lt hk2
  clear y0 y1 y2
  obtain ⟨y0, y1, y2⟩ := c3_of hk2
  go_wp2
  generalize w2.alloc (.cells #[.slice aS s.length cs, .slice am m.length cm, .slice none 0 0] 64) = W3 at *
  obtain ⟨q, hq⟩ : ∃ q, q = w2.heap.size := ⟨_, rfl⟩
  rw [← hq] at N3 hwl
  rw [← hq]
  clear hA3 hk3 hk2 y0 y1 y2 hq hB2
  go_loopw [30] (fun i wr => ∃ (k : Nat) (v : Value), i = .int .i64 k ∧ k ≤ m.length ∧ Need q wr q v (askAll s m [] (linksOf (m.take k))) (.slice aS s.length cs) (.slice am m.length cm) ∧ Below q W3 wr) (fun i _ => m.length - (intOf i).toNat)
  case atStart => exact ⟨0, _, rfl, Nat.zero_le _, N3, Below.refl _ _⟩
  case round =>
    clear N3
    obtain ⟨k, v, rfl, hk, ND, hBr⟩ := hrel
    have hBw := hB3.trans (hBr.mono (Nat.le_of_lt hwl))
    by_cases hlt : k < m.length
    · obtain ⟨b, off, rfl, hb, hc⟩ := hm k hlt
      obtain ⟨sa, sc, x0, x1, x2, x3, x4, x5⟩ := (hc k hlt).below hBw hb
      have x4w : ∀ i, i < m[k].links.length → ∃ b off, sa = some ⟨b, off, none⟩ ∧ b < w.heap.size := by
        obtain ⟨sa', sc', z0, z1, z2, z3, z4, z5⟩ := hc k hlt
        have e : (some (Value.slice sa m[k].links.length sc) : Option Value) = some (.slice sa' m[k].links.length sc') := by
          rw [← x2, hBw.cell (p := ⟨b, off + k * 4 + 2, none⟩) hb]; exact z2
        cases e
        intro i hi
        obtain ⟨b', off', e1, e2, _⟩ := z4 i hi
        exact ⟨b', off', e1, e2⟩
      clear hc
      have hA4 := below_alloc wr (.cells #[.int .i64 m[k].id, .int .i64 m[k].kind, .slice sa m[k].links.length sc, .string m[k].text] 35)
      have N4 := ND.below hA4
      have hof : Off (wr.alloc (.cells #[.int .i64 m[k].id, .int .i64 m[k].kind, .slice sa m[k].links.length sc, .string m[k].text] 35)) q v sa m[k].links := by
        refine ⟨x4.below hA4, fun b' off' e h0 => ?_⟩
        obtain ⟨b2, off2, e2, hlt2⟩ := x4w 0 h0
        rw [e] at e2
        cases e2
        exact ⟨by omega, fun e => by have := (ND.own.lt _ e).1; omega⟩
      have HLl : Hid ((askAll s m [] (linksOf (m.take k))).length ≤ 48) := by
        have h1 := askAll_length s m (linksOf (m.take k)) []
        have h2 := linksOf_length (m.take k) (fun x hx => HL4.out x (List.mem_of_mem_take hx))
        rw [List.length_take] at h2
        simp at h1
        unfold Hid
        omega
      have h4l := HL4.out m[k] (List.getElem_mem hlt)
      have hask := ask_any q q v _ aS cs s (some ⟨b, off, none⟩) cm m sa sc m[k].links w _ (hBw.trans (hA4.mono hBw.size)) (Nat.le_of_lt hwl) hs hsl hm hml N4 hof (by have := HLl.out; omega)
      have HNx : Hid (askAll s m (askAll s m [] (linksOf (m.take k))) m[k].links = askAll s m [] (linksOf (m.take (k + 1)))) := by
        unfold Hid
        rw [List.take_succ_eq_append_getElem hlt, linksOf_append, askAll_append]
        simp [linksOf]
      have hb4 : Below q W3 (wr.alloc (.cells #[.int .i64 m[k].id, .int .i64 m[k].kind, .slice sa m[k].links.length sc, .string m[k].text] 35)) := hBr.trans (hA4.mono (Nat.le_of_lt ND.lt))
      clear hof N4 hA4 ND hBr x4 x4w HLl
      go_wp2_with fail
      refine hask.mono ?_
      clear hask
      rintro e w5 ⟨rfl, ⟨v', N5⟩, hb5⟩
      have hB5 := hb4.trans hb5
      rw [HNx.out] at N5
      clear hb4 hb5 x0 x1 x2 x3
      go_wp2
      go_roundw
      case rel => exact ⟨k + 1, v', by go_num, by omega, N5, hB5⟩
      case measure => simp [intOf]; omega
    · obtain rfl : k = m.length := by omega
      rw [List.take_of_length_le (Nat.le_refl _)] at ND
      have x1 := (hBr.cell (p := ⟨w.heap.size, 1, none⟩) hwl).trans v1
      have hLb : (askAll s m [] (linksOf m)).length ≤ 48 := by
        have h1 := askAll_length s m (linksOf m) []
        have h2 := linksOf_length m HL4.out
        simp at h1
        omega
      clear v0 v1 v2 hk
      go_wp2
      go_loopw [41] (fun i wt => ∃ (k : Nat) (v : Value), i = .int .i64 k ∧ k ≤ us.length ∧ Need q wt q v (askAll s m (askAll s m [] (linksOf m)) (newsOf (us.take k))) (.slice aS s.length cs) (.slice am m.length cm) ∧ Below q W3 wt) (fun i _ => us.length - (intOf i).toNat)
      case atStart => exact ⟨0, v, rfl, Nat.zero_le _, ND, hBr⟩
      case round =>
        clear ND hBr hBw x1
        obtain ⟨k, v, rfl, hk, ND, hBr⟩ := hrel
        have hBw := hB3.trans (hBr.mono (Nat.le_of_lt hwl))
        by_cases hlt : k < us.length
        · obtain ⟨b, off, rfl, hb, hc⟩ := (hu.below hBw) k hlt
          obtain ⟨x0, x1, x2⟩ := hc k hlt
          clear hc
          have hA4 := below_alloc wr (.cells #[.string us[k].name, .int .i64 us[k].old, .int .i64 us[k].new] 45)
          have hLk : (askAll s m (askAll s m [] (linksOf m)) (newsOf (us.take k))).length ≤ 800 := by
            have h1 := askAll_length s m (newsOf (us.take k)) (askAll s m [] (linksOf m))
            have h2 := newsOf_length (us.take k)
            rw [List.length_take] at h2
            omega
          have hask := askNew_any q q v _ aS cs s am cm m us[k] w _ (hBw.trans (hA4.mono hBw.size)) (Nat.le_of_lt hwl) hs hsl hm hml (ND.below hA4) hLk
          have HNx : Hid (askAll s m (askAll s m (askAll s m [] (linksOf m)) (newsOf (us.take k))) (newsOf [us[k]]) = askAll s m (askAll s m [] (linksOf m)) (newsOf (us.take (k + 1)))) := by
            unfold Hid
            rw [List.take_succ_eq_append_getElem hlt, newsOf_append, askAll_append]
          have hb4 : Below q W3 (wr.alloc (.cells #[.string us[k].name, .int .i64 us[k].old, .int .i64 us[k].new] 45)) := hBr.trans (hA4.mono (Nat.le_of_lt ND.lt))
          clear hA4 ND hBr hLk
          go_wp2_with fail
          refine hask.mono ?_
          clear hask
          rintro e w5 ⟨rfl, ⟨v', N5⟩, hb5⟩
          have hB5 := hb4.trans hb5
          rw [HNx.out] at N5
          clear hb4 hb5 x0 x1 x2
          go_wp2
          go_roundw
          case rel => exact ⟨k + 1, v', by go_num, by omega, N5, hB5⟩
          case measure => simp [intOf]; omega
        · obtain rfl : k = us.length := by omega
          rw [List.take_of_length_le (Nat.le_refl _)] at ND
          have ND' : Need q wr q v (needL s m us) (.slice aS s.length cs) (.slice am m.length cm) := ND
          have hnl := needs_length (s := s) HP.out
          have hso := sortI_any q v (needL s m us) wr ND'.own (by omega)
          obtain ⟨y0, y1, y2⟩ := c3_of ND'.blk
          have HQ : Hid (v.ownBlock ≠ some q) := ND'.ne
          have HQb : Hid (∀ g, v.ownBlock = some g → q ≤ g) := fun g e => (ND'.own.lt g e).1
          have hblk := ND'.blk
          clear ND ND' hBr
          go_wp2_with fail
          refine hso.mono ?_
          clear hso
          rintro e w6 ⟨rfl, o6, g6⟩
          have hblk6 := (g6.block q (heap_lt hblk) (fun e => HQ.out e.symm)).trans hblk
          have hB6 : Below w.heap.size w w6 := hBw.trans ⟨g6.os, g6.tape, g6.output, g6.size, fun k hk => g6.block k (by have := hBw.size; omega) (fun e => by have := HQb.out k e.symm; omega)⟩
          have hlm : (needsL s m us).length = (needL s m us).length := List.length_mergeSort _
          have o7 : w6.ownsRow q 3 1 v (needsL s m us).length ((needsL s m us).map (Value.int .i64)) := by rw [hlm]; exact o6
          obtain ⟨a7, c7, hv7, hh7⟩ := ownI_reads o7
          subst hv7
          obtain ⟨u0, u1, u2⟩ := c3_of hblk6
          have HF : Hid (NeedsPost s m us w (.returned (.tuple #[.slice a7 (needsL s m us).length c7, .int .i64 0])) w6) := ⟨hB6, .inr ⟨HZ.out, a7, c7, rfl, hh7⟩⟩
          clear o6 o7 g6 hblk hblk6 hB6 hh7 y0 y1 y2 hBw hlm
          go_wp2
          refine bodyPost_ret (v := .tuple #[.slice a7 (needsL s m us).length c7, .int .i64 0]) (by simp [results, Tryz.results9, go_sem]) rfl ?_
          exact HF.out
end

section
open Go.RowKit
set_option maxRecDepth 100000

/-- of a block no cell holds a number but 0. -/
def Zero (W : World) (R : Nat) : Prop := ∀ off n, W.cell? ⟨R, off, none⟩ = some (.int .i64 n) → n = 0
theorem Zero.ne {W : World} {R : Nat} (h : Zero W R) {b off : Nat} {n : Int} (hc : W.cell? ⟨b, off, none⟩ = some (.int .i64 n)) (hn : n ≠ 0) : b ≠ R := fun e => hn (h off n (by rw [← e]; exact hc))
/-- a world that differs in one block. -/
structure But (R : Nat) (W W' : World) : Prop where
  size : W'.heap.size = W.heap.size
  cell : ∀ b off, b ≠ R → W'.cell? ⟨b, off, none⟩ = W.cell? ⟨b, off, none⟩
theorem But.refl (R : Nat) (W : World) : But R W W := ⟨rfl, fun _ _ _ => rfl⟩
theorem But.set {R : Nat} {W W' : World} (h : But R W W') (off : Nat) (v : Value) : But R W (W'.setCell ⟨R, off, none⟩ v) :=
  ⟨(World.size_setCell _ _ _).trans h.size, fun b o hb => (sc_other (fun e => hb (congrArg Addr.block e).symm)).trans (h.cell b o hb)⟩
theorem Holds.but {R : Nat} {W W' : World} (h : But R W W') (z : Zero W R) {a : Option Addr} {L : List Int} (hL : Holds W a L) (hn : ∀ i ∈ L, i ≠ 0) : Holds W' a L := by
  intro i hi
  obtain ⟨b, off, e, hlt, hc⟩ := hL i hi
  have hp : 0 < L.length := by omega
  have h0 := hc 0 hp
  have hne : b ≠ R := z.ne h0 (by rw [List.getD_eq_getElem?_getD, List.getElem?_eq_getElem hp]; exact hn _ (List.getElem_mem hp))
  exact ⟨b, off, e, by rw [h.size]; exact hlt, fun j hj => (h.cell b _ hne).trans (hc j hj)⟩
theorem HoldsS.but {R : Nat} {W W' : World} (h : But R W W') (z : Zero W R) {a : Option Addr} {l : List Ob} (hl : HoldsS W a l) (hn : ∀ x ∈ l, x.id ≠ 0 ∧ ∀ i ∈ x.links, i ≠ 0) : HoldsS W' a l := by
  intro i hi
  obtain ⟨b, off, e, hlt, hc⟩ := hl i hi
  refine ⟨b, off, e, by rw [h.size]; exact hlt, fun j hj => ?_⟩
  obtain ⟨sa, sc, x0, x1, x2, x3, x4, x5⟩ := hc j hj
  have hne : b ≠ R := z.ne x0 (hn _ (List.getElem_mem hj)).1
  exact ⟨sa, sc, (h.cell b _ hne).trans x0, (h.cell b _ hne).trans x1, (h.cell b _ hne).trans x2, (h.cell b _ hne).trans x3, x4.but h z (hn _ (List.getElem_mem hj)).2, x5⟩
theorem HoldsR.but {R : Nat} {W W' : World} (h : But R W W') (z : Zero W R) {a : Option Addr} {l : List Rf} (hl : HoldsR W a l) (hn : ∀ x ∈ l, x.id ≠ 0) : HoldsR W' a l := by
  intro i hi
  obtain ⟨b, off, e, hlt, hc⟩ := hl i hi
  refine ⟨b, off, e, by rw [h.size]; exact hlt, fun j hj => ?_⟩
  obtain ⟨x0, x1⟩ := hc j hj
  have hne : b ≠ R := z.ne x1 (hn _ (List.getElem_mem hj))
  exact ⟨(h.cell b _ hne).trans x0, (h.cell b _ hne).trans x1⟩
theorem HoldsU.but {R : Nat} {W W' : World} (h : But R W W') (z : Zero W R) {a : Option Addr} {l : List Up} (hl : HoldsU W a l) (hn : ∀ x ∈ l, x.new ≠ 0) : HoldsU W' a l := by
  intro i hi
  obtain ⟨b, off, e, hlt, hc⟩ := hl i hi
  refine ⟨b, off, e, by rw [h.size]; exact hlt, fun j hj => ?_⟩
  obtain ⟨x0, x1, x2⟩ := hc j hj
  have hne : b ≠ R := z.ne x2 (hn _ (List.getElem_mem hj))
  exact ⟨(h.cell b _ hne).trans x0, (h.cell b _ hne).trans x1, (h.cell b _ hne).trans x2⟩

abbrev zero42 : Obj := .cells #[.slice none 0 0, .slice none 0 0, .int .i64 0, .int .i64 0, .slice none 0 0, .slice none 0 0, .bool false] 28
abbrev zero40 : Obj := .cells #[.slice none 0 0, .slice none 0 0, .bool false] 26
theorem zero42_zero {W : World} {R : Nat} (h : W.heap[R]? = some zero42) : Zero W R := by
  intro off n hc
  rw [cell_of_row W _ _ _ _ _ h] at hc
  match off, hc with
  | 0, hc => cases hc
  | 1, hc => cases hc
  | 2, hc => cases hc; rfl
  | 3, hc => cases hc; rfl
  | 4, hc => cases hc
  | 5, hc => cases hc
  | 6, hc => cases hc
  | k + 7, hc => simp at hc
theorem zero40_zero {W : World} {R : Nat} (h : W.heap[R]? = some zero40) : Zero W R := by
  intro off n hc
  rw [cell_of_row W _ _ _ _ _ h] at hc
  match off, hc with
  | 0, hc => cases hc
  | 1, hc => cases hc
  | 2, hc => cases hc
  | k + 3, hc => simp at hc
theorem shelf_not0 : ∀ x ∈ shelfL, x.id ≠ 0 ∧ ∀ i ∈ x.links, i ≠ 0 := by decide +kernel
theorem names_not0 : ∀ x ∈ namesL, x.id ≠ 0 := by
  intro x hx
  simp only [namesL, List.mem_cons, List.not_mem_nil, or_false] at hx
  rcases hx with rfl | rfl <;> decide

set_option maxHeartbeats 1000000 in
theorem host_any (w : World) : Calls Tryz.prog 32 #[] w fun e w' => ∃ g1 g2, e = .returned (replV (some ⟨g1, 0, none⟩) 5 5 (some ⟨g2, 0, none⟩) 2 2 7 0 none 0 0 none 0 0 false) ∧ HoldsS w' (some ⟨g1, 0, none⟩) shelfL ∧ HoldsR w' (some ⟨g2, 0, none⟩) namesL ∧ Below w.heap.size w w' := by
  have hA := below_alloc w zero42
  have hbk := heap_alloc_new w zero42
  go_enter Tryz.func32, Tryz.ntmps32
  go_wp2_with fail
  refine (shelf_holds _).mono ?_
  rintro e w1 ⟨g1, rfl, hb1, h1⟩
  have hB1 := hA.trans (hb1.mono hA.size)
  have hk1 := (hb1.block _ (heap_lt hbk)).trans hbk
  clear hb1 hA hbk
  go_wp2_with fail
  refine (names_any w1).mono ?_
  rintro e w2 ⟨g2, rfl, h2, hb2⟩
  have hB2 := hB1.trans (hb2.mono hB1.size)
  have hk2 := (hb2.block _ (heap_lt hk1)).trans hk1
  have h12 := h1.below hb2
  clear hb2 hB1 hk1 h1
  have z2 := zero42_zero hk2
  have c : ∀ i v, (#[.slice none 0 0, .slice none 0 0, .int .i64 0, .int .i64 0, .slice none 0 0, .slice none 0 0, .bool false] : Array Value)[i]? = some v → w2.cell? ⟨w.heap.size, i, none⟩ = some v := fun i v h => by rw [cell_of_row w2 _ _ _ _ _ hk2]; exact h
  have c0 : w2.cell? ⟨w.heap.size, 0, none⟩ = some (.slice none 0 0) := c 0 _ rfl
  have c1 : w2.cell? ⟨w.heap.size, 1, none⟩ = some (.slice none 0 0) := c 1 _ rfl
  have c2 : w2.cell? ⟨w.heap.size, 2, none⟩ = some (.int .i64 0) := c 2 _ rfl
  have c3 : w2.cell? ⟨w.heap.size, 3, none⟩ = some (.int .i64 0) := c 3 _ rfl
  have c4 : w2.cell? ⟨w.heap.size, 4, none⟩ = some (.slice none 0 0) := c 4 _ rfl
  have c5 : w2.cell? ⟨w.heap.size, 5, none⟩ = some (.slice none 0 0) := c 5 _ rfl
  have c6 : w2.cell? ⟨w.heap.size, 6, none⟩ = some (.bool false) := c 6 _ rfl
  have f0 := f_of (o := 0) hk2
  have f1 := f_of (o := 1) hk2
  have f2 := f_of (o := 2) hk2
  have f3 := f_of (o := 3) hk2
  have f4 := f_of (o := 4) hk2
  have f5 := f_of (o := 5) hk2
  have f6 := f_of (o := 6) hk2
  have bt : But w.heap.size w2 (((((((w2.setCell ⟨w.heap.size, 0, none⟩ (.slice (some ⟨g1, 0, none⟩) 5 5)).setCell ⟨w.heap.size, 1, none⟩ (.slice (some ⟨g2, 0, none⟩) 2 2)).setCell ⟨w.heap.size, 2, none⟩ (.int .i64 7)).setCell ⟨w.heap.size, 3, none⟩ (.int .i64 0)).setCell ⟨w.heap.size, 4, none⟩ (.slice none 0 0)).setCell ⟨w.heap.size, 5, none⟩ (.slice none 0 0)).setCell ⟨w.heap.size, 6, none⟩ (.bool false)) :=
    ((((((((But.refl _ _).set _ _).set _ _).set _ _).set _ _).set _ _).set _ _).set _ _)
  have bl : Below w.heap.size w (((((((w2.setCell ⟨w.heap.size, 0, none⟩ (.slice (some ⟨g1, 0, none⟩) 5 5)).setCell ⟨w.heap.size, 1, none⟩ (.slice (some ⟨g2, 0, none⟩) 2 2)).setCell ⟨w.heap.size, 2, none⟩ (.int .i64 7)).setCell ⟨w.heap.size, 3, none⟩ (.int .i64 0)).setCell ⟨w.heap.size, 4, none⟩ (.slice none 0 0)).setCell ⟨w.heap.size, 5, none⟩ (.slice none 0 0)).setCell ⟨w.heap.size, 6, none⟩ (.bool false)) :=
    (((((((hB2.setCell (Nat.le_refl _) _).setCell (Nat.le_refl _) _).setCell (Nat.le_refl _) _).setCell (Nat.le_refl _) _).setCell (Nat.le_refl _) _).setCell (Nat.le_refl _) _).setCell (Nat.le_refl _) _)
  have HF : Hid (_ ∧ _ ∧ _) := ⟨h12.but bt z2 shelf_not0, h2.but bt z2 names_not0, bl⟩
  clear bt bl z2 hk2 hB2 h12 h2 c
  go_wp2
  refine bodyPost_ret (v := replV (some ⟨g1, 0, none⟩) 5 5 (some ⟨g2, 0, none⟩) 2 2 7 0 none 0 0 none 0 0 false) (by simp [results, Tryz.results32, go_sem, c0, c1, c2, c3, c4, c5, c6]) rfl ?_
  exact ⟨g1, g2, rfl, HF.out.1, HF.out.2.1, HF.out.2.2⟩
end

section
open Go.RowKit
set_option maxRecDepth 100000

abbrev oc : Ob := ⟨6, 3, [2, 5], tee⟩
def comeL : List Ob := [oc]
def comeU : List Up := [⟨nMain, 3, 6⟩]
theorem beg_try : tryE shelfL namesL comeL comeU false = 0 := by decide +kernel
theorem beg_res : (takeRes shelfL comeL).length = 6 := by decide +kernel
theorem beg_id : lookI (runL namesL comeU) nMain = 6 := by decide +kernel
theorem beg_needsE : needsE (shelfL.take 3) comeL comeU = 0 := by decide +kernel
theorem beg_needL : needL (shelfL.take 3) comeL comeU = [5] := by decide +kernel
theorem beg_needs : needsL (shelfL.take 3) comeL comeU = [5] := by unfold needsL; rw [beg_needL]; simp
theorem beg_push : pushE comeL comeU = 0 := by decide +kernel

theorem holds_ints (w : World) (g : Nat) (x y : Int) (h : w.heap[g]? = some (.cells #[.int .i64 x, .int .i64 y] 3)) : Holds w (some ⟨g, 0, none⟩) [x, y] := by
  intro i hi
  refine ⟨g, 0, rfl, heap_lt h, fun j hj => ?_⟩
  rw [cell_of_row w _ _ _ _ _ h]
  match j, hj with
  | 0, _ => rfl
  | 1, _ => rfl

set_option maxHeartbeats 1000000 in
theorem come_any (w : World) : Calls Tryz.prog 33 #[] w fun e w' => ∃ g1 g2, e = .returned (pushV (some ⟨g1, 0, none⟩) 1 1 (some ⟨g2, 0, none⟩) 1 1 false) ∧ HoldsS w' (some ⟨g1, 0, none⟩) comeL ∧ HoldsU w' (some ⟨g2, 0, none⟩) comeU ∧ Below w.heap.size w w' := by
  have hA := below_alloc2 w zero40 (.cells #[.int .i64 2, .int .i64 5] 3)
  have hA2 := below_alloc (w.alloc zero40) (.cells #[.int .i64 2, .int .i64 5] 3)
  have hk1 : ((w.alloc zero40).alloc (.cells #[.int .i64 2, .int .i64 5] 3)).heap[w.heap.size]? = some zero40 := (hA2.block _ (by simp)).trans (heap_alloc_new w _)
  have hk2 : ((w.alloc zero40).alloc (.cells #[.int .i64 2, .int .i64 5] 3)).heap[w.heap.size + 1]? = some (.cells #[.int .i64 2, .int .i64 5] 3) := by
    have := heap_alloc_new (w.alloc zero40) (.cells #[.int .i64 2, .int .i64 5] 3)
    rwa [show (w.alloc zero40).heap.size = w.heap.size + 1 by simp] at this
  clear hA2
  go_enter Tryz.func33, Tryz.ntmps33
  go_wp2_with fail
  refine (obj_any 6 3 (some ⟨w.heap.size + 1, 0, none⟩) 2 2 _).mono ?_
  rintro e w1 ⟨rfl, hb1⟩
  have hB1 := hA.trans (hb1.mono hA.size)
  have hk11 := (hb1.block _ (heap_lt hk1)).trans hk1
  have hk21 := (hb1.block _ (heap_lt hk2)).trans hk2
  clear hb1 hA hk1 hk2
  -- the two lists
  obtain ⟨W2, hW2⟩ : ∃ W2, W2 = w1.alloc (.cells #[.int .i64 6, .int .i64 3, .slice (some ⟨w.heap.size + 1, 0, none⟩) 2 2, .string tee] 35) := ⟨_, rfl⟩
  have hb2 : Below w1.heap.size w1 W2 := by rw [hW2]; exact below_alloc _ _
  have hk32 : W2.heap[w1.heap.size]? = some (.cells #[.int .i64 6, .int .i64 3, .slice (some ⟨w.heap.size + 1, 0, none⟩) 2 2, .string tee] 35) := by rw [hW2]; exact heap_alloc_new w1 _
  have hs2 : W2.heap.size = w1.heap.size + 1 := by rw [hW2]; simp
  have hb3 := below_alloc W2 (.cells #[.string nMain, .int .i64 3, .int .i64 6] 45)
  have hU3 := holdsU_one W2 ⟨nMain, 3, 6⟩
  have hk33 := (hb3.block _ (heap_lt hk32)).trans hk32
  have hk23 := (hb3.block _ (Nat.lt_of_lt_of_le (heap_lt hk21) hb2.size)).trans ((hb2.block _ (heap_lt hk21)).trans hk21)
  have hk13 := (hb3.block _ (Nat.lt_of_lt_of_le (heap_lt hk11) hb2.size)).trans ((hb2.block _ (heap_lt hk11)).trans hk11)
  have hB3 := (hB1.trans (hb2.mono hB1.size)).trans (hb3.mono (hB1.trans (hb2.mono hB1.size)).size)
  have hS3 : HoldsS (W2.alloc (.cells #[.string nMain, .int .i64 3, .int .i64 6] 45)) (some ⟨w1.heap.size, 0, none⟩) comeL := by
    intro i hi
    refine ⟨_, _, rfl, heap_lt hk33, fun j hj => ?_⟩
    match j, hj with
    | 0, _ => exact ⟨some ⟨w.heap.size + 1, 0, none⟩, 2, by rw [cell_of_row _ _ _ _ _ _ hk33]; rfl, by rw [cell_of_row _ _ _ _ _ _ hk33]; rfl, by rw [cell_of_row _ _ _ _ _ _ hk33]; rfl, by rw [cell_of_row _ _ _ _ _ _ hk33]; rfl, holds_ints _ _ 2 5 hk23, by show ([2, 5] : List Int).length ≤ _; decide⟩
  rw [hs2] at hU3
  rw [hW2] at hU3 hS3 hB3 hk13
  clear hk33 hk23 hb3 hb2 hk32 hs2 hk21 hk11 hB1 hW2
  have z := zero40_zero hk13
  obtain ⟨c0, c1, c2⟩ := c3_of hk13
  have f0 := f_of (o := 0) hk13
  have f1 := f_of (o := 1) hk13
  have f2 := f_of (o := 2) hk13
  have HF : ∀ (W : World), HoldsS W (some ⟨w1.heap.size, 0, none⟩) comeL → HoldsU W (some ⟨w1.heap.size + 1, 0, none⟩) comeU → Below w.heap.size w W → Zero W w.heap.size →
      Hid (HoldsS (((W.setCell ⟨w.heap.size, 0, none⟩ (.slice (some ⟨w1.heap.size, 0, none⟩) 1 1)).setCell ⟨w.heap.size, 1, none⟩ (.slice (some ⟨w1.heap.size + 1, 0, none⟩) 1 1)).setCell ⟨w.heap.size, 2, none⟩ (.bool false)) (some ⟨w1.heap.size, 0, none⟩) comeL ∧
        HoldsU (((W.setCell ⟨w.heap.size, 0, none⟩ (.slice (some ⟨w1.heap.size, 0, none⟩) 1 1)).setCell ⟨w.heap.size, 1, none⟩ (.slice (some ⟨w1.heap.size + 1, 0, none⟩) 1 1)).setCell ⟨w.heap.size, 2, none⟩ (.bool false)) (some ⟨w1.heap.size + 1, 0, none⟩) comeU ∧
        Below w.heap.size w (((W.setCell ⟨w.heap.size, 0, none⟩ (.slice (some ⟨w1.heap.size, 0, none⟩) 1 1)).setCell ⟨w.heap.size, 1, none⟩ (.slice (some ⟨w1.heap.size + 1, 0, none⟩) 1 1)).setCell ⟨w.heap.size, 2, none⟩ (.bool false))) := fun W h1 h2 h3 h4 => by
    have bt := (((But.refl w.heap.size W).set 0 (.slice (some ⟨w1.heap.size, 0, none⟩) 1 1)).set 1 (.slice (some ⟨w1.heap.size + 1, 0, none⟩) 1 1)).set 2 (.bool false)
    exact ⟨h1.but bt h4 (by decide +kernel), h2.but bt h4 (fun x hx => by
      simp only [comeU, List.mem_cons, List.not_mem_nil, or_false] at hx
      subst hx; decide), ((h3.setCell (Nat.le_refl _) _).setCell (Nat.le_refl _) _).setCell (Nat.le_refl _) _⟩
  have HG := HF _ hS3 hU3 hB3 z
  clear HF hS3 hU3 hB3 z hk13
  go_wp2
  refine bodyPost_ret (v := pushV (some ⟨w1.heap.size, 0, none⟩) 1 1 (some ⟨w1.heap.size + 1, 0, none⟩) 1 1 false) (by simp [results, Tryz.results33, go_sem, c0, c1, c2]) rfl ?_
  exact ⟨_, _, rfl, HG.out.1, HG.out.2.1, HG.out.2.2⟩

set_option maxHeartbeats 4000000 in
theorem pushBegun_any (w : World) (hg : Glob w) : Calls Tryz.prog 10 #[] w fun e w' => e = .returned (.bool true) ∧ Below w.heap.size w w' := by
  go_enter Tryz.func10, Tryz.ntmps10
  go_wp2_with fail
  refine (host_any w).mono ?_
  rintro e w1 ⟨g1, g2, rfl, hS1, hR1, hb1⟩
  go_wp2_with fail
  refine (come_any w1).mono ?_
  rintro e w2 ⟨g3, g4, rfl, hM2, hU2, hb2⟩
  have hB2 := hb1.trans (hb2.mono hb1.size)
  have htr := try_any (some ⟨g1, 0, none⟩) 5 shelfL (some ⟨g2, 0, none⟩) 2 namesL 7 0 none 0 0 none 0 0 false (some ⟨g3, 0, none⟩) 1 comeL (some ⟨g4, 0, none⟩) 1 comeU false w2 (hg.below hB2) (hS1.below hb2) (by decide) (hR1.below hb2) (by decide) hM2 (by decide) hU2 (by decide)
  clear hS1 hR1 hM2 hU2 hb1 hb2
  go_wp2_with fail
  refine htr.mono ?_
  clear htr
  rintro e w3 ⟨hb3, ⟨hno, -⟩ | ⟨-, a3, c3, a4, c4, rfl, -, -, hL3⟩⟩
  case inl => exact absurd beg_try hno
  rw [beg_res]
  have hB3 := hB2.trans (hb3.mono hB2.size)
  have hrl : (runL namesL comeU).length ≤ 9223372036854775807 := by decide +kernel
  obtain ⟨A, hAe⟩ : ∃ A, A = runL namesL comeU := ⟨_, rfl⟩
  have HId : Hid (lookI A nMain = 6) := by unfold Hid; rw [hAe]; exact beg_id
  rw [← hAe] at hL3 hrl
  rw [← hAe]
  clear hb3 hB2 hAe
  go_wp2_with fail
  have hdr := (Below.refl w3.heap.size w3).drew
  have hLD := hL3.below hdr
  have hBD := hB3.trans (hdr.mono hB3.size)
  clear hdr hL3 hB3
  refine wp_region_E (fun _ => True) (fun _ => false) (by kernel_rfl) trivial (fun hS => ?_)
  generalize w3.drew = W0 at *
  refine wpAnyE.one (i := 0) (by kernel_rfl) rfl (fun K hK => ?_)
  go_simp
  refine (shelf_holds W0).mono ?_
  rintro e W1 ⟨g5, rfl, hb1, h5⟩
  have hL1 := hLD.below hb1
  have hB1 := hBD.trans (hb1.mono hBD.size)
  clear hb1 hLD hBD
  refine hK _ _ (fun _ => trivial) ?_
  clear hK K
  try simp only [Act.put, List.getElem_toArray, List.getElem_cons_zero, List.setIfInBounds_toArray, List.set_cons_zero, List.set_cons_succ]
  refine wpAnyE.take (i := 1) (v := ?_) rfl (by kernel_rfl) (by kernel_rfl) (by kernel_rfl) (by kernel_rfl) (fun _ _ _ h => h) (Or.inl ⟨by rfl, ?_⟩) (by assumption) ?_
  rotate_left
  · intro w hSw; go_simp; with_reducible rfl
  try simp only [Act.put, List.getElem_toArray, List.getElem_cons_succ, List.getElem_cons_zero, List.setIfInBounds_toArray, List.set_cons_zero, List.set_cons_succ]
  refine wpAnyE.one (i := 2) (by kernel_rfl) rfl (fun K hK => ?_)
  go_simp
  refine (come_any W1).mono ?_
  rintro e W2 ⟨g6, g7, rfl, hM, hU, hb2⟩
  have hL2 := hL1.below hb2
  have h52 := holds_take (h5.below hb2) 3
  have hB2 := hB1.trans (hb2.mono hB1.size)
  clear hb2 hL1 hB1 h5
  refine hK _ _ (fun _ => trivial) ?_
  clear hK K
  try simp only [Act.put, List.getElem_toArray, List.getElem_cons_succ, List.getElem_cons_zero, List.setIfInBounds_toArray, List.set_cons_zero, List.set_cons_succ]
  refine wpAnyE.one (i := 3) (by kernel_rfl) rfl (fun K hK => ?_)
  go_simp
  refine (needs_any (some ⟨g5, 0, none⟩) 5 (shelfL.take 3) (some ⟨g6, 0, none⟩) 1 comeL (some ⟨g7, 0, none⟩) 1 comeU false W2 (hg.below hB2) h52 (by decide) hM (by decide) hU (by decide)).mono ?_
  rintro e W3 ⟨hb3, ⟨hno, -⟩ | ⟨-, a8, c8, rfl, hN3⟩⟩
  case inl => exact absurd beg_needsE hno
  rw [beg_needs] at hN3
  rw [show (needsL (shelfL.take 3) comeL comeU).length = 1 by rw [beg_needs]; rfl]
  have hL3 := hL2.below hb3
  have hB3 := hB2.trans (hb3.mono hB2.size)
  clear hb3 hL2 hB2 h52 hM hU
  refine hK _ _ (fun _ => trivial) ?_
  clear hK K
  try simp only [Act.put, List.getElem_toArray, List.getElem_cons_succ, List.getElem_cons_zero, List.setIfInBounds_toArray, List.set_cons_zero, List.set_cons_succ]
  refine wpAnyE.take (i := 4) (v := ?_) rfl (by kernel_rfl) (by kernel_rfl) (by kernel_rfl) (by kernel_rfl) (fun _ _ _ h => h) (Or.inl ⟨by rfl, ?_⟩) (by assumption) ?_
  rotate_left
  · intro w hSw; go_simp; with_reducible rfl
  try simp only [Act.put, List.getElem_toArray, List.getElem_cons_succ, List.getElem_cons_zero, List.setIfInBounds_toArray, List.set_cons_zero, List.set_cons_succ]
  refine wpAnyE.take (i := 5) (v := ?_) rfl (by kernel_rfl) (by kernel_rfl) (by kernel_rfl) (by kernel_rfl) (fun _ _ _ h => h) (Or.inl ⟨by rfl, ?_⟩) (by assumption) ?_
  rotate_left
  · intro w hSw; go_simp; with_reducible rfl
  try simp only [Act.put, List.getElem_toArray, List.getElem_cons_succ, List.getElem_cons_zero, List.setIfInBounds_toArray, List.set_cons_zero, List.set_cons_succ]
  refine wpAnyE.take (i := 6) (v := ?_) rfl (by kernel_rfl) (by kernel_rfl) (by kernel_rfl) (by kernel_rfl) (fun _ _ _ h => h) (Or.inl ⟨by rfl, ?_⟩) (by assumption) ?_
  rotate_left
  · intro w hSw; go_simp; with_reducible rfl
  try simp only [Act.put, List.getElem_toArray, List.getElem_cons_succ, List.getElem_cons_zero, List.setIfInBounds_toArray, List.set_cons_zero, List.set_cons_succ]
  refine wpAnyE.take (i := 7) (v := ?_) rfl (by kernel_rfl) (by kernel_rfl) (by kernel_rfl) (by kernel_rfl) (fun _ _ _ h => h) (Or.inl ⟨by rfl, ?_⟩) (by assumption) ?_
  rotate_left
  · intro w hSw; go_simp; with_reducible rfl
  try simp only [Act.put, List.getElem_toArray, List.getElem_cons_succ, List.getElem_cons_zero, List.setIfInBounds_toArray, List.set_cons_zero, List.set_cons_succ]
  refine wpAnyE.take (i := 8) (v := ?_) rfl (by kernel_rfl) (by kernel_rfl) (by kernel_rfl) (by kernel_rfl) (fun _ _ _ h => h) (Or.inl ⟨by rfl, ?_⟩) (by assumption) ?_
  rotate_left
  · intro w hSw; go_simp; with_reducible rfl
  try simp only [Act.put, List.getElem_toArray, List.getElem_cons_succ, List.getElem_cons_zero, List.setIfInBounds_toArray, List.set_cons_zero, List.set_cons_succ]
  refine wpAnyE.done (by kernel_rfl) ?_
  go_wp2_with fail
  refine (come_any W3).mono ?_
  rintro e w4 ⟨g8, g9, rfl, hM4, hU4, hb4⟩
  have hL4 := hL3.below hb4
  have hN4 := hN3.below hb4
  have hB4 := hB3.trans (hb4.mono hB3.size)
  have hpc := pcheck_any (some ⟨g8, 0, none⟩) 1 comeL (some ⟨g9, 0, none⟩) 1 comeU false w4 (hg.below hB4) hM4 (by decide) hU4 (by decide)
  rw [beg_push] at hpc
  clear hb4 hL3 hN3 hB3 hM4 hU4
  go_wp2_with fail
  refine hpc.mono ?_
  clear hpc
  rintro e w5 ⟨rfl, hb5⟩
  have hL5 := hL4.below hb5
  have hN5 := hN4.below hb5
  have hB5 := hB4.trans (hb5.mono hB4.size)
  have hid := idOf_any a4 c4 A nMain w5 hL5 hrl
  rw [HId.out] at hid
  clear hb5 hL4 hN4 hB4 hL5
  go_wp2_with fail
  refine hid.mono ?_
  clear hid
  rintro e w6 ⟨rfl, hb6⟩
  have hA6 := below_alloc w6 (.cells #[.int .i64 5] 3)
  have hN6 := (hN5.below hb6).below hA6
  have hB6 := (hB5.trans (hb6.mono hB5.size)).trans (hA6.mono (hB5.trans (hb6.mono hB5.size)).size)
  have hsi := sameInts_any a8 c8 [5] (some ⟨w6.heap.size, 0, none⟩) 1 [5] _ hN6 (holds_one w6 5) (by decide)
  rw [show sameB [5] [5] = true by rfl] at hsi
  clear hb6 hN5 hB5 hN6 hA6
  go_wp2_with fail
  refine hsi.mono ?_
  clear hsi
  rintro e w7 ⟨rfl, n, rfl⟩
  have hB7 : Below w.heap.size w ((w6.alloc (.cells #[.int .i64 5] 3)).drewN n) := hB6.trans ⟨rfl, rfl, rfl, Nat.le_refl _, fun _ _ => rfl⟩
  clear hB6
  go_wp2
  go_ret
  exact ⟨rfl, hB7⟩
end

section
open Go.RowKit

def movedB (us : List Up) : Bool := us.any (fun u => u.old != u.new)
theorem movedB_next {us : List Up} {k : Nat} (hk : k < us.length) : movedB (us.take (k + 1)) = (movedB (us.take k) || (us[k].old != us[k].new)) := by
  unfold movedB
  rw [List.take_succ_eq_append_getElem hk, List.any_append]
  simp
theorem movedB_iff {us : List Up} : movedB us = true → ∃ u ∈ us, u.old ≠ u.new := by
  intro h
  obtain ⟨u, hu, e⟩ := List.any_eq_true.1 h
  exact ⟨u, hu, by simpa using e⟩
end
end Go.Proofs.YtgkmoehbjdmefaaGreatDoor
