import Derived.Test.YtehmlpkapjdhkaaGreatDoorMU
namespace Go.Proofs.YtehmlpkapjdhkaaGreatDoor
section
open Go.RowKit
set_option maxRecDepth 100000

/-- what Check of a push answers. -/
def pushE (m : List Ob) (us : List Up) : Int := if 12 < m.length then 2 else if eachE m ≠ 0 then eachE m else checkU us
theorem pushE_iff {m : List Ob} {us : List Up} : pushE m us = 0 ↔ m.length ≤ 12 ∧ eachE m = 0 ∧ checkU us = 0 := by
  unfold pushE
  constructor
  · intro h
    split at h
    · omega
    split at h
    · rename_i c; exact absurd h c
    rename_i c
    exact ⟨by omega, Classical.byContradiction c, h⟩
  · rintro ⟨h1, h2, h3⟩
    rw [if_neg (by omega), if_neg (fun e => e h2), h3]
/-- what Try answers. -/
def tryE (s : List Ob) (l : List Rf) (m : List Ob) (us : List Up) (f : Bool) : Int :=
  if pushE m us ≠ 0 then pushE m us else if addE s m ≠ 0 then addE s m else applyE l (takeRes s m) us f
theorem tryE_iff {s : List Ob} {l : List Rf} {m : List Ob} {us : List Up} {f : Bool} : tryE s l m us f = 0 ↔ pushE m us = 0 ∧ addE s m = 0 ∧ applyE l (takeRes s m) us f = 0 := by
  unfold tryE
  constructor
  · intro h
    split at h
    · rename_i c; exact absurd h c
    rename_i c1
    split at h
    · rename_i c; exact absurd h c
    rename_i c2
    exact ⟨Classical.byContradiction c1, Classical.byContradiction c2, h⟩
  · rintro ⟨h1, h2, h3⟩
    rw [if_neg (fun e => e h1), if_neg (fun e => e h2), h3]
/-- objects that are there already need not come. -/
theorem try_bare {s : List Ob} {l : List Rf} {m : List Ob} {us : List Up} {f : Bool} (h : tryE s l m us f = 0) : tryE (takeRes s m) l [] us f = 0 ∧ takeRes (takeRes s m) [] = takeRes s m := by
  obtain ⟨h1, h2, h3⟩ := tryE_iff.1 h
  obtain ⟨_, _, h6⟩ := pushE_iff.1 h1
  obtain ⟨a1, a2, a3, a4, a5⟩ := addE_zero h2
  have e : takeRes (takeRes s m) [] = takeRes s m := rfl
  refine ⟨tryE_iff.2 ⟨pushE_iff.2 ⟨by simp, rfl, h6⟩, ?_, by rw [e]; exact h3⟩, e⟩
  unfold addE
  rw [if_neg (fun q => q a5), if_neg (by simp), if_neg (fun q => q rfl), if_neg (fun q => q rfl)]
  exact a5
/-- done, it is refused a second time, if it moved a name. -/
theorem try_again {s : List Ob} {l : List Rf} {m : List Ob} {us : List Up} {f : Bool} (h : tryE s l m us f = 0) (hm : ∃ u ∈ us, u.old ≠ u.new) : tryE (takeRes s m) (runL l us) m us f = 4 := by
  obtain ⟨h1, h2, h3⟩ := tryE_iff.1 h
  obtain ⟨b1, b2⟩ := add_again h2
  unfold tryE
  rw [if_neg (fun q => q h1), if_neg (fun q => q b1), b2]
  exact apply_again h3 hm

/-- a push, as a value. -/
abbrev pushV (am : Option Addr) (nm cm : Nat) (au : Option Addr) (nu cu : Nat) (f : Bool) : Value := .agg #[.slice am nm cm, .slice au nu cu, .bool f]

set_option maxHeartbeats 2000000 in
theorem pcheck_any (am : Option Addr) (cm : Nat) (m : List Ob) (au : Option Addr) (cu : Nat) (us : List Up) (f : Bool) (w : World) (hg : Glob w) (hm : HoldsS w am m) (hml : m.length ≤ 9223372036854775807) (hu : HoldsU w au us) (hul : us.length ≤ 9223372036854775807) :
    Calls Tryz.prog 79 #[pushV am m.length cm au us.length cu f] w fun e w' => e = .returned (.int .i64 (pushE m us)) ∧ Below w.heap.size w w' := by
  have hA := below_alloc w (.cells #[.slice am m.length cm, .slice au us.length cu, .bool f] 28)
  have hbk := heap_alloc_new w (.cells #[.slice am m.length cm, .slice au us.length cu, .bool f] 28)
  obtain ⟨y0, y1, y2⟩ := c3_of hbk
  by_cases h12 : 12 < m.length
  · have HR : Hid (2 = pushE m us) := by unfold Hid pushE; rw [if_pos h12]
    have z1 : (12 : Int) < (m.length : Int) := by omega
    clear h12
    go_enter Tryz.func79, Tryz.ntmps79
    go_wp2
    go_ret
    exact ⟨ret_int HR.out, hA⟩
  have HP : Hid (pushE m us = if eachE m ≠ 0 then eachE m else checkU us) := by unfold Hid pushE; rw [if_neg h12]
  have z1 : ¬ (12 : Int) < (m.length : Int) := by omega
  have hgA := hg.below hA
  have hmA := hm.below hA
  have huA := hu.below hA
  go_enter Tryz.func79, Tryz.ntmps79
  go_wp2
  generalize w.alloc (.cells #[.slice am m.length cm, .slice au us.length cu, .bool f] 28) = W at *
  obtain ⟨B, hBe⟩ : ∃ B, B = w.heap.size := ⟨_, rfl⟩
  rw [← hBe] at y0 y1 y2 hbk
  rw [← hBe]
  have hBl := heap_lt hbk
  clear hBe hbk
  go_loopw [13] (fun i wr => ∃ k : Nat, i = .int .i64 k ∧ k ≤ m.length ∧ Below W.heap.size W wr ∧ Hid (eachE m = eachE (m.drop k))) (fun i _ => m.length - (intOf i).toNat)
  case atStart => exact ⟨0, rfl, Nat.zero_le _, Below.refl _ _, rfl⟩
  case round =>
    obtain ⟨k, rfl, hk, hBr, H⟩ := hrel
    have hBw := hA.trans (hBr.mono hA.size)
    by_cases hlt : k < m.length
    · obtain ⟨b, off, rfl, hb, hc⟩ := (hmA.below hBr) k hlt
      obtain ⟨sa, sc, x0, x1, x2, x3, x4, x5⟩ := hc k hlt
      clear hc
      have hA2 := below_alloc wr (.cells #[.int .i64 m[k].id, .int .i64 m[k].kind, .slice sa m[k].links.length sc, .string m[k].text] 58)
      have hck := check_any m[k].id m[k].kind sa sc m[k].links m[k].text _ (x4.below hA2) x5
      go_wp2_with fail
      refine hck.mono ?_
      clear hck
      rintro e w1 ⟨rfl, hb1⟩
      have hB1 := (hBr.trans (hA2.mono hBr.size)).trans (hb1.mono (by have := hBr.size; have := hA2.size; omega))
      have hBw1 := hA.trans (hB1.mono hA.size)
      clear hb1 hA2 x0 x1 x2 x3 x4 hBr hBw
      by_cases hz : m[k].err = 0
      · have HN : Hid (eachE m = eachE (m.drop (k + 1))) := ee_next hlt H.out hz
        rw [show checkE m[k].id m[k].kind m[k].links m[k].text.size = 0 from hz]
        clear hz
        go_wp2
        go_roundw
        case rel => exact ⟨k + 1, by go_num, by omega, hB1, HN⟩
        case measure => simp [intOf]; omega
      · have HR : Hid (pushE m us = m[k].err) := by
          have e := ee_bad hlt H.out hz
          unfold Hid
          rw [HP.out, e, if_pos hz]
        have hz' : (checkE m[k].id m[k].kind m[k].links m[k].text.size != 0) = true := by simpa using hz
        clear hz
        go_wp2
        go_ret
        exact ⟨ret_int HR.out.symm, hBw1⟩
    · have HE : Hid (pushE m us = checkU us) := by
        have e := ee_end hlt H.out
        unfold Hid
        rw [HP.out, if_neg (fun q => q e)]
      have x1 := (hBr.cell (p := ⟨B, 1, none⟩) hBl).trans y1
      have huc := ucheck_any au cu us wr (hgA.below hBr) (huA.below hBr) hul
      go_wp2_with fail
      refine huc.mono ?_
      clear huc
      rintro e w1 ⟨rfl, hb1⟩
      have hBw1 := hBw.trans (hb1.mono hBw.size)
      clear hb1 hBw x1
      go_wp2
      go_ret
      exact ⟨ret_int HE.out.symm, hBw1⟩

/-- a replica, as a value. -/
abbrev replV (aS : Option Addr) (ns cs : Nat) (al : Option Addr) (nl cl : Nat) (g ph : Int) (a1 : Option Addr) (n1 c1 : Nat) (a2 : Option Addr) (n2 c2 : Nat) (f : Bool) : Value := .agg #[.slice aS ns cs, .slice al nl cl, .int .i64 g, .int .i64 ph, .slice a1 n1 c1, .slice a2 n2 c2, .bool f]
/-- what Try hands back. -/
def TryPost (s : List Ob) (l : List Rf) (m : List Ob) (us : List Up) (f : Bool) (w : World) (e : Ending) (w' : World) : Prop :=
  Below w.heap.size w w' ∧ ((tryE s l m us f ≠ 0 ∧ e = .returned (.tuple #[.slice none 0 0, .slice none 0 0, .int .i64 (tryE s l m us f)])) ∨
    (tryE s l m us f = 0 ∧ ∃ a c a' c', e = .returned (.tuple #[.slice a (takeRes s m).length c, .slice a' (runL l us).length c', .int .i64 0]) ∧ HoldsS w' a (takeRes s m) ∧ Room w' a (takeRes s m) ∧ HoldsR w' a' (runL l us)))
theorem TryPost.bad {s : List Ob} {l : List Rf} {m : List Ob} {us : List Up} {f : Bool} {w w' : World} {r : Int} (hr : tryE s l m us f = r) (h0 : r ≠ 0) (hb : Below w.heap.size w w') : TryPost s l m us f w (.returned (.tuple #[.slice none 0 0, .slice none 0 0, .int .i64 r])) w' :=
  ⟨hb, .inl ⟨by rw [hr]; exact h0, by rw [hr]⟩⟩

set_option maxHeartbeats 2000000 in
theorem try_any (aS : Option Addr) (cs : Nat) (s : List Ob) (al : Option Addr) (cl : Nat) (l : List Rf) (g ph : Int) (a1 : Option Addr) (n1 c1 : Nat) (a2 : Option Addr) (n2 c2 : Nat) (f0 : Bool) (am : Option Addr) (cm : Nat) (m : List Ob) (au : Option Addr) (cu : Nat) (us : List Up) (f : Bool) (w : World) (hg : Glob w)
    (hs : HoldsS w aS s) (hsl : s.length ≤ 9223372036854775807) (hl : HoldsR w al l) (hll : l.length ≤ 9223372036854775807) (hm : HoldsS w am m) (hml : m.length ≤ 9223372036854775807) (hu : HoldsU w au us) (hul : us.length ≤ 9223372036854775807) :
    Calls Tryz.prog 208 #[replV aS s.length cs al l.length cl g ph a1 n1 c1 a2 n2 c2 f0, pushV am m.length cm au us.length cu f] w (TryPost s l m us f w) := by
  have HE : Hid (tryE s l m us f = if pushE m us ≠ 0 then pushE m us else if addE s m ≠ 0 then addE s m else applyE l (takeRes s m) us f) := rfl
  have hB := below_alloc2 w (.cells #[.slice aS s.length cs, .slice al l.length cl, .int .i64 g, .int .i64 ph, .slice a1 n1 c1, .slice a2 n2 c2, .bool f0] 36) (.cells #[.slice am m.length cm, .slice au us.length cu, .bool f] 28)
  have hA2 := below_alloc (w.alloc (.cells #[.slice aS s.length cs, .slice al l.length cl, .int .i64 g, .int .i64 ph, .slice a1 n1 c1, .slice a2 n2 c2, .bool f0] 36)) (.cells #[.slice am m.length cm, .slice au us.length cu, .bool f] 28)
  have hk2 : ((w.alloc (.cells #[.slice aS s.length cs, .slice al l.length cl, .int .i64 g, .int .i64 ph, .slice a1 n1 c1, .slice a2 n2 c2, .bool f0] 36)).alloc (.cells #[.slice am m.length cm, .slice au us.length cu, .bool f] 28)).heap[w.heap.size + 1]? = some (.cells #[.slice am m.length cm, .slice au us.length cu, .bool f] 28) := by
    have := heap_alloc_new (w.alloc (.cells #[.slice aS s.length cs, .slice al l.length cl, .int .i64 g, .int .i64 ph, .slice a1 n1 c1, .slice a2 n2 c2, .bool f0] 36)) (.cells #[.slice am m.length cm, .slice au us.length cu, .bool f] 28)
    rwa [show (w.alloc (.cells #[.slice aS s.length cs, .slice al l.length cl, .int .i64 g, .int .i64 ph, .slice a1 n1 c1, .slice a2 n2 c2, .bool f0] 36)).heap.size = w.heap.size + 1 by simp] at this
  have hk1 : ((w.alloc (.cells #[.slice aS s.length cs, .slice al l.length cl, .int .i64 g, .int .i64 ph, .slice a1 n1 c1, .slice a2 n2 c2, .bool f0] 36)).alloc (.cells #[.slice am m.length cm, .slice au us.length cu, .bool f] 28)).heap[w.heap.size]? = some (.cells #[.slice aS s.length cs, .slice al l.length cl, .int .i64 g, .int .i64 ph, .slice a1 n1 c1, .slice a2 n2 c2, .bool f0] 36) := (hA2.block _ (by simp)).trans (heap_alloc_new w _)
  obtain ⟨y0, y1, y2⟩ := c3_of hk2
  have hpc := pcheck_any am cm m au cu us f _ (hg.below hB) (hm.below hB) hml (hu.below hB) hul
  clear hA2
  go_enter Tryz.func208, Tryz.ntmps208
  go_wp2_with fail
  refine hpc.mono ?_
  clear hpc
  rintro e w1 ⟨rfl, hb1⟩
  have hB1 := hB.trans (hb1.mono hB.size)
  have hk21 := (hb1.block _ (heap_lt hk2)).trans hk2
  have hk11 := (hb1.block _ (heap_lt hk1)).trans hk1
  clear hb1 hB hk2 hk1 y0 y1 y2
  by_cases k1 : pushE m us = 0
  case neg =>
    have HR : Hid (tryE s l m us f = pushE m us) := by unfold Hid; rw [HE.out, if_pos k1]
    have HF : Hid (TryPost s l m us f w (.returned (.tuple #[.slice none 0 0, .slice none 0 0, .int .i64 (pushE m us)])) w1) := TryPost.bad HR.out k1 hB1
    have z1 : (pushE m us != 0) = true := by simpa using k1
    clear k1 hk21 hk11
    go_wp2
    refine bodyPost_ret (v := .tuple #[.slice none 0 0, .slice none 0 0, .int .i64 (pushE m us)]) (by simp [results, Tryz.results208, go_sem]) rfl ?_
    exact HF.out
  have HE1 : Hid (tryE s l m us f = if addE s m ≠ 0 then addE s m else applyE l (takeRes s m) us f) := by unfold Hid; rw [HE.out, if_neg (fun e => e k1)]
  rw [k1]
  clear k1 HE
  have r0 : w1.cell? ⟨w.heap.size, 0, none⟩ = some (.slice aS s.length cs) := by rw [cell_of_row w1 _ _ _ _ _ hk11]; rfl
  obtain ⟨y0, y1, y2⟩ := c3_of hk21
  have had := add_any aS cs s am cm m w1 (hs.below hB1) hsl (hm.below hB1) hml
  go_wp2_with fail
  refine had.mono ?_
  clear had
  rintro e w2 ⟨hb2, hpost⟩
  have hB2 := hB1.trans (hb2.mono hB1.size)
  have hk22 := (hb2.block _ (heap_lt hk21)).trans hk21
  have hk12 := (hb2.block _ (heap_lt hk11)).trans hk11
  clear hb2 hB1 hk21 hk11 r0 y0 y1 y2
  rcases hpost with ⟨hne, rfl⟩ | ⟨hz, a3, c3, rfl, hS3, hlc3, hR3⟩
  · have HR : Hid (tryE s l m us f = addE s m) := by unfold Hid; rw [HE1.out, if_pos hne]
    have HF : Hid (TryPost s l m us f w (.returned (.tuple #[.slice none 0 0, .slice none 0 0, .int .i64 (addE s m)])) w2) := TryPost.bad HR.out hne hB2
    have z1 : (addE s m != 0) = true := by simpa using hne
    clear hne hk22 hk12
    go_wp2
    refine bodyPost_ret (v := .tuple #[.slice none 0 0, .slice none 0 0, .int .i64 (addE s m)]) (by simp [results, Tryz.results208, go_sem]) rfl ?_
    exact HF.out
  have HE2 : Hid (tryE s l m us f = applyE l (takeRes s m) us f) := by unfold Hid; rw [HE1.out, if_neg (fun e => e hz)]
  have hR40 : (takeRes s m).length ≤ 9223372036854775807 := by have := (checkS_zero (addE_zero hz).2.2.2.2).1; omega
  clear hz HE1 hlc3
  obtain ⟨A, hA⟩ : ∃ A, A = takeRes s m := ⟨_, rfl⟩
  have HA : Hid (A = takeRes s m) := hA
  rw [← hA] at hS3 hR3 hR40 HE2
  rw [← hA]
  clear hA
  have r1 : w2.cell? ⟨w.heap.size, 1, none⟩ = some (.slice al l.length cl) := by rw [cell_of_row w2 _ _ _ _ _ hk12]; rfl
  obtain ⟨y0, y1, y2⟩ := c3_of hk22
  have hap := apply_any al cl l a3 c3 A au cu us f w2 (hg.below hB2) (hl.below hB2) hll hS3 hR3 hR40 (hu.below hB2) hul
  go_wp2_with fail
  refine hap.mono ?_
  clear hap
  rintro e w3 ⟨hb3, hpost⟩
  have hB3 := hB2.trans (hb3.mono hB2.size)
  have hS4 := hS3.below hb3
  have hR4 := hR3.below hb3
  clear hb3 hB2 hk22 hk12 r1 y0 y1 y2 hS3 hR3
  rcases hpost with ⟨hne, rfl⟩ | ⟨hz, a5, c5, rfl, hL5, -⟩
  · have HF : Hid (TryPost s l m us f w (.returned (.tuple #[.slice none 0 0, .slice none 0 0, .int .i64 (applyE l A us f)])) w3) := TryPost.bad HE2.out hne hB3
    have z1 : (applyE l A us f != 0) = true := by simpa using hne
    clear hne
    go_wp2
    refine bodyPost_ret (v := .tuple #[.slice none 0 0, .slice none 0 0, .int .i64 (applyE l A us f)]) (by simp [results, Tryz.results208, go_sem]) rfl ?_
    exact HF.out
  · have HF : Hid (TryPost s l m us f w (.returned (.tuple #[.slice a3 A.length c3, .slice a5 (runL l us).length c5, .int .i64 0])) w3) :=
      ⟨hB3, .inr ⟨HE2.out.trans hz, a3, c3, a5, c5, by rw [← HA.out], by rw [← HA.out]; exact hS4, by rw [← HA.out]; exact hR4, hL5⟩⟩
    clear hz hS4 hR4 hL5
    go_wp2
    refine bodyPost_ret (v := .tuple #[.slice a3 A.length c3, .slice a5 (runL l us).length c5, .int .i64 0]) (by simp [results, Tryz.results208, go_sem]) rfl ?_
    exact HF.out
end

section
open Go.RowKit
set_option maxRecDepth 100000

def hasO (l : List Ob) (id : Int) : Bool := decide (0 ≤ placeI l id)
theorem hasO_iff {l : List Ob} {id : Int} : hasO l id = true ↔ ∃ x ∈ l, x.id = id := by unfold hasO; rw [decide_eq_true_eq]; exact place_mem
/-- one id is asked for. -/
def askOne (s m : List Ob) (q : List Int) (id : Int) : List Int := if (!hasO s id && !hasO m id && !decide (id ∈ q)) = true then q ++ [id] else q
def askAll (s m : List Ob) : List Int → List Int → List Int
  | q, [] => q
  | q, i :: is => askAll s m (askOne s m q i) is
theorem askAll_append (s m : List Ob) : ∀ (a b q : List Int), askAll s m q (a ++ b) = askAll s m (askAll s m q a) b
  | [], _, _ => rfl
  | _ :: a, b, _ => askAll_append s m a b _
theorem askOne_length (s m : List Ob) (q : List Int) (i : Int) : (askOne s m q i).length ≤ q.length + 1 := by
  unfold askOne; split
  · simp
  · omega
theorem askAll_length (s m : List Ob) : ∀ (is q : List Int), (askAll s m q is).length ≤ q.length + is.length
  | [], _ => by simp [askAll]
  | i :: is, q => by
    have h1 := askAll_length s m is (askOne s m q i)
    have h2 := askOne_length s m q i
    rw [askAll, List.length_cons]; omega
/-- what is asked for is nowhere, and no id stands twice. -/
def Asked (s m : List Ob) (q : List Int) : Prop := (∀ i ∈ q, hasO s i = false ∧ hasO m i = false) ∧ q.Nodup
theorem askOne_asked {s m : List Ob} {q : List Int} {i : Int} (h : Asked s m q) : Asked s m (askOne s m q i) := by
  unfold askOne
  split
  · rename_i c
    simp only [Bool.and_eq_true, Bool.not_eq_true', decide_eq_false_iff_not] at c
    refine ⟨fun j hj => ?_, ?_⟩
    · rcases List.mem_append.1 hj with hj | hj
      · exact h.1 j hj
      · rw [List.mem_singleton.1 hj]; exact c.1
    · rw [List.nodup_append]
      refine ⟨h.2, by simp, fun a ha b hb e => ?_⟩
      rw [List.mem_singleton.1 hb] at e
      rw [e] at ha
      exact c.2 ha
  · exact h
theorem askAll_asked {s m : List Ob} : ∀ (is : List Int) {q : List Int}, Asked s m q → Asked s m (askAll s m q is)
  | [], _, h => h
  | _ :: is, _, h => askAll_asked is (askOne_asked h)
theorem askAll_none {s m : List Ob} : ∀ (is q : List Int), (∀ i ∈ is, hasO s i = true ∨ hasO m i = true) → askAll s m q is = q
  | [], _, _ => rfl
  | i :: is, q, h => by
    have e : askOne s m q i = q := by
      unfold askOne
      rw [if_neg]
      rcases h i (by simp) with c | c <;> rw [c] <;> simp
    rw [askAll, e]
    exact askAll_none is q (fun j hj => h j (by simp [hj]))
def linksOf : List Ob → List Int
  | [] => []
  | x :: m => x.links ++ linksOf m
def newsOf : List Up → List Int
  | [] => []
  | u :: us => (if u.new = 0 then [] else [u.new]) ++ newsOf us
theorem linksOf_append : ∀ (a b : List Ob), linksOf (a ++ b) = linksOf a ++ linksOf b
  | [], _ => rfl
  | x :: a, b => by rw [List.cons_append, linksOf, linksOf, linksOf_append a b, List.append_assoc]
theorem newsOf_append : ∀ (a b : List Up), newsOf (a ++ b) = newsOf a ++ newsOf b
  | [], _ => rfl
  | x :: a, b => by rw [List.cons_append, newsOf, newsOf, newsOf_append a b, List.append_assoc]
theorem linksOf_mem {i : Int} : ∀ {m : List Ob}, i ∈ linksOf m ↔ ∃ x ∈ m, i ∈ x.links
  | [] => by simp [linksOf]
  | x :: m => by
    rw [linksOf, List.mem_append, linksOf_mem]
    simp
theorem newsOf_mem {i : Int} : ∀ {us : List Up}, i ∈ newsOf us → ∃ u ∈ us, u.new ≠ 0 ∧ u.new = i
  | [], h => by cases h
  | u :: us, h => by
    rw [newsOf, List.mem_append] at h
    rcases h with h | h
    · split at h
      · cases h
      · rename_i c
        exact ⟨u, by simp, c, (List.mem_singleton.1 h).symm⟩
    · obtain ⟨v, hv, e⟩ := newsOf_mem h
      exact ⟨v, by simp [hv], e⟩
theorem linksOf_length : ∀ (m : List Ob), (∀ x ∈ m, x.links.length ≤ 4) → (linksOf m).length ≤ m.length * 4
  | [], _ => by simp [linksOf]
  | x :: m, h => by
    have h1 := linksOf_length m (fun y hy => h y (by simp [hy]))
    have h2 := h x (by simp)
    rw [linksOf, List.length_append, List.length_cons]; omega
theorem newsOf_length : ∀ (us : List Up), (newsOf us).length ≤ us.length
  | [] => by simp [newsOf]
  | u :: us => by
    have h1 := newsOf_length us
    rw [newsOf, List.length_append, List.length_cons]
    split <;> simp <;> omega
/-- what a push needs, as it comes up. -/
def needL (s m : List Ob) (us : List Up) : List Int := askAll s m (askAll s m [] (linksOf m)) (newsOf us)
def needsL (s m : List Ob) (us : List Up) : List Int := (needL s m us).mergeSort (fun x y => decide (x ≤ y))
def needsE (s m : List Ob) (us : List Up) : Int := if checkS s ≠ 0 then checkS s else pushE m us
theorem needsE_iff {s m : List Ob} {us : List Up} : needsE s m us = 0 ↔ checkS s = 0 ∧ pushE m us = 0 := by
  unfold needsE
  constructor
  · intro h
    split at h
    · rename_i c; exact absurd h c
    rename_i c
    exact ⟨Classical.byContradiction c, h⟩
  · rintro ⟨h1, h2⟩
    rw [if_neg (fun e => e h1), h2]
theorem needL_asked (s m : List Ob) (us : List Up) : Asked s m (needL s m us) := askAll_asked _ (askAll_asked _ ⟨(fun _ h => by cases h), List.nodup_nil⟩)
theorem needs_mem {s m : List Ob} {us : List Up} {i : Int} (h : i ∈ needsL s m us) : placeI s i = -1 ∧ placeI m i = -1 := by
  have h1 := (needL_asked s m us).1 i ((List.mergeSort_perm _ _).mem_iff.1 h)
  refine ⟨?_, ?_⟩
  · rcases placeI_cases s i with c | ⟨k, c, _⟩
    · exact c
    · have := h1.1; unfold hasO at this; rw [c] at this; simp at this
  · rcases placeI_cases m i with c | ⟨k, c, _⟩
    · exact c
    · have := h1.2; unfold hasO at this; rw [c] at this; simp at this
theorem needs_rise (s m : List Ob) (us : List Up) : (needsL s m us).Pairwise (fun x y => x < y) := by
  have h1 : (needsL s m us).Pairwise (fun x y => decide (x ≤ y) = true) := List.pairwise_mergeSort (fun a b c h1 h2 => by simp at *; omega) (fun a b => by simp; omega) _
  have h2 : (needsL s m us).Nodup := (List.mergeSort_perm _ _).nodup_iff.2 (needL_asked s m us).2
  have := List.Pairwise.and h1 h2
  exact this.imp fun q => by have := q.1; have := q.2; simp at *; omega
theorem needs_length {s m : List Ob} {us : List Up} (h : pushE m us = 0) : (needL s m us).length ≤ 100 := by
  obtain ⟨h1, h2, h3⟩ := pushE_iff.1 h
  have a1 := linksOf_length m (fun x hx => (checkE_zero (eachE_all h2 x hx)).2.2.1)
  have a2 := newsOf_length us
  have a3 := (checkU_iff.1 h3).2.1
  have a4 := askAll_length s m (newsOf us) (askAll s m [] (linksOf m))
  have a5 := askAll_length s m (linksOf m) []
  unfold needL
  simp at a5
  omega
/-- A PUSH THAT NEEDS SOMETHING IS REFUSED. -/
theorem try_needs {s : List Ob} {l : List Rf} {m : List Ob} {us : List Up} {f : Bool} (h : tryE s l m us f = 0) (t : List Ob) (ht : ∀ x ∈ takeRes s m, hasO t x.id = true ∨ hasO m x.id = true) : needsL t m us = [] := by
  obtain ⟨h1, h2, h3⟩ := tryE_iff.1 h
  obtain ⟨a1, a2, a3, a4, a5⟩ := addE_zero h2
  have key : ∀ i, (∃ x ∈ takeRes s m, x.id = i) → hasO t i = true ∨ hasO m i = true := fun i ⟨x, hx, e⟩ => by rw [← e]; exact ht x hx
  have e1 : askAll t m [] (linksOf m) = [] := askAll_none _ _ fun i hi => by
    obtain ⟨x, hx, hxi⟩ := linksOf_mem.1 hi
    obtain ⟨z, hz, ez⟩ := right_there a5 x (takeRes_new a4 x hx) i hxi
    exact key i ⟨z, hz, ez⟩
  have e2 : askAll t m [] (newsOf us) = [] := askAll_none _ _ fun i hi => by
    obtain ⟨u, hu, hz, e⟩ := newsOf_mem hi
    obtain ⟨q1, q2, q3, q4⟩ := applyE_iff.1 h3
    obtain ⟨c1, c2, c3, c4⟩ := checkU_iff.1 q2
    have hd := (runE_iff us (fun u hu => (c3 u hu).name) c4 (refs_sort q1)).1 q3 u hu
    obtain ⟨x, hx, ex⟩ := (mayE_new (hd.2 hz)).1
    exact key i ⟨x, hx, by rw [ex, e]⟩
  unfold needsL needL
  rw [e1, e2]
  simp
theorem try_needs_none {s : List Ob} {l : List Rf} {m : List Ob} {us : List Up} {f : Bool} (h : tryE s l m us f = 0) : needsL s m us = [] :=
  try_needs h s fun x hx => by
    rcases takeRes_mem hx with c | c
    · exact .inl (hasO_iff.2 ⟨x, c, rfl⟩)
    · exact .inr (hasO_iff.2 ⟨x, c, rfl⟩)
theorem try_needs_then {s : List Ob} {l : List Rf} {m : List Ob} {us : List Up} {f : Bool} (h : tryE s l m us f = 0) : needsE (takeRes s m) m us = 0 ∧ needsL (takeRes s m) m us = [] := by
  obtain ⟨h1, h2, h3⟩ := tryE_iff.1 h
  exact ⟨needsE_iff.2 ⟨(addE_zero h2).2.2.2.2, h1⟩, try_needs h _ fun x hx => .inl (hasO_iff.2 ⟨x, hx, rfl⟩)⟩
end

section
open Go.RowKit
set_option maxRecDepth 100000

/-- append of one number onto a row of one's own; the new row is the old one's block or a new block. -/
theorem app_int (w : World) (base : Nat) (ty : TypeId) (v : Value) (n : Nat) (xs : List Value) (hown : w.ownsRow base 3 1 v n xs) (vb : Nat) (ys : Array Value) (hv : w.heap[vb]? = some (.cells ys 3)) (hys : ys.size = 1)
    (h2 : ∀ v ∈ ys.toList, v.oneCell' = true) (hn : n ≤ 1000) (hbase : base ≤ w.heap.size) :
    ∃ v' w', (Builtin.append_ #[45, 45] ty #[v, .slice (some ⟨vb, 0, none⟩) 1 1]).run Tryz.prog w = .ok v' w' ∧ w'.ownsRow base 3 1 v' (n + 1) (xs ++ ys.toList) ∧ w.grownBy w' v.ownBlock ∧ ∀ k, v'.ownBlock = some k → v.ownBlock = some k ∨ w.heap.size ≤ k := by
  obtain ⟨i0, hi0, hz0, hzs, hzb⟩ := info_parts Tryz.info3
  have hl : ys.toList.length = 1 * 1 := by rw [Array.length_toList, hys]
  have hnews := World.news_of_block hv
  obtain ⟨v', w', hr, q1, q2, _⟩ := run_append_own (P := Tryz.prog) w base 45 ty 3 i0 _ 1 8 Tryz.underlying45 hi0 hz0 hzs hzb rfl (by omega) v n xs hown ⟨vb, 0, none⟩ 1 1 ys.toList hl hnews h2 (by unfold maxLen; omega) (by omega) hbase
  refine ⟨v', w', hr, q1, q2, ?_⟩
  rcases hown.2 with ⟨rfl, rfl⟩ | ⟨g, cap, cur, rfl, hbg, hg, hnc, hcm, hcs, htake⟩
  · obtain ⟨v2, w2, hr2, p1, _, _⟩ := run_append_own (P := Tryz.prog) w w.heap.size 45 ty 3 i0 _ 1 8 Tryz.underlying45 hi0 hz0 hzs hzb rfl (by omega) _ 0 [] (World.ownsRow_nil _ _ _ _) ⟨vb, 0, none⟩ 1 1 ys.toList hl hnews h2 (by unfold maxLen; omega) (by omega) (Nat.le_refl _)
    rw [hr] at hr2
    cases hr2
    exact fun k hk => .inr (p1.lt k hk).1
  · by_cases hroom : n + 1 ≤ cap
    · have hr2 := run_append_room (P := Tryz.prog) w 45 ty 3 i0 Tryz.underlying45 hi0 g n cap cur hg ⟨vb, 0, none⟩ 1 1 ys.toList (by rw [hzs]; exact hl) hnews h2 hroom (by rw [hzs, hl]; omega)
      rw [hr] at hr2
      cases hr2
      exact fun k hk => .inl hk
    · have hr2 := run_append_grow (P := Tryz.prog) w 45 ty 3 i0 _ Tryz.underlying45 hi0 hz0 ⟨g, 0, none⟩ n cap xs (by rw [hzs]; exact hown.1) (hown.cells (g := g) rfl) ⟨vb, 0, none⟩ 1 1 ys.toList (by rw [hzs]; exact hl) hnews (by omega) (by omega) (by rw [hzb]; exact growslice_fits (by omega) (by omega))
      rw [hr] at hr2
      cases hr2
      exact fun k hk => .inr (by simp [Value.ownBlock] at hk; omega)

/-- a need at q: its row lies above base. -/
structure Need (base : Nat) (w : World) (q : Nat) (v : Value) (l : List Int) (x0 x1 : Value) : Prop where
  blk : w.heap[q]? = some (.cells #[x0, x1, v] 94)
  le : base ≤ q
  own : w.ownsRow base 3 1 v l.length (l.map (Value.int .i64))
  ne : v.ownBlock ≠ some q
theorem Need.lt {base : Nat} {w : World} {q : Nat} {v : Value} {l : List Int} {x0 x1 : Value} (h : Need base w q v l x0 x1) : q < w.heap.size := heap_lt h.blk
theorem Need.below {base : Nat} {w w' : World} {q : Nat} {v : Value} {l : List Int} {x0 x1 : Value} (h : Need base w q v l x0 x1) (hb : Below w.heap.size w w') : Need base w' q v l x0 x1 :=
  ⟨(hb.block q h.lt).trans h.blk, h.le, ownsRow_kept h.own (fun g hg => hb.block g (h.own.lt g hg).2), h.ne⟩
theorem Need.next {base : Nat} {w w1 w2 : World} {q : Nat} {v v' : Value} {l l' : List Int} {x0 x1 : Value} (h : Need base w q v l x0 x1) (hb : Below w.heap.size w w1) (hg : w1.grownBy w2 v.ownBlock) (ho : w2.ownsRow base 3 1 v' l'.length (l'.map (Value.int .i64))) (hk : v'.ownBlock ≠ some q) :
    Need base (w2.setCell ⟨q, 2, none⟩ v') q v' l' x0 x1 ∧ Below base w (w2.setCell ⟨q, 2, none⟩ v') ∧ ∀ k, k < w.heap.size → k ≠ q → v.ownBlock ≠ some k → (w2.setCell ⟨q, 2, none⟩ v').heap[k]? = w.heap[k]? := by
  have h1 := h.below hb
  have hpl := h.lt
  have hle := h.le
  have hbp : w2.heap[q]? = some (.cells #[x0, x1, v] 94) := (hg.block q h1.lt (fun e => h.ne e.symm)).trans h1.blk
  have hoth : ∀ k, k ≠ q → (w2.setCell ⟨q, 2, none⟩ v').heap[k]? = w2.heap[k]? := fun k hk => heap_setCell_other w2 ⟨q, 2, none⟩ k v' hk
  have hsz : (w2.setCell ⟨q, 2, none⟩ v').heap.size = w2.heap.size := World.size_setCell _ _ _
  have hs1 := hb.size
  have hs2 := hg.size
  refine ⟨⟨?_, h.le, ?_, hk⟩, ?_, fun k hk1 hk2 hk3 => ?_⟩
  · have := heap_setCell_same w2 q 2 #[x0, x1, v] 94 v' hbp
    simpa using this
  · exact ownsRow_kept ho (fun g e => hoth g (fun q => hk (by rw [← q]; exact e)))
  · refine ⟨hg.os.trans hb.os, hg.tape.trans hb.tape, hg.output.trans hb.output, by omega, fun k hk' => ?_⟩
    rw [hoth k (by omega), hg.block k (by omega) (fun e => by have := (h.own.lt k e.symm).1; omega)]
    exact hb.block k (by omega)
  · rw [hoth k hk2, hg.block k (by omega) (fun e => hk3 e.symm)]
    exact hb.block k hk1

theorem ownI_reads {w : World} {base : Nat} {v : Value} {xs : List Int} (h : w.ownsRow base 3 1 v xs.length (xs.map (Value.int .i64))) : ∃ a c, v = .slice a xs.length c ∧ Holds w a xs := by
  rcases h.2 with ⟨rfl, e⟩ | ⟨g, cap, cur, rfl, h1, h2, h3, h4, h5, h6⟩
  · rw [e]
    exact ⟨none, 0, rfl, fun i hi => by omega⟩
  · refine ⟨_, _, rfl, fun i hi => ⟨g, 0, rfl, heap_lt h2, fun k hk => ?_⟩⟩
    have hc : cur[k]? = (xs.map (Value.int .i64))[k]? := by rw [← h6, List.getElem?_take, if_pos (by omega)]; simp
    rw [cell_of_row w g _ _ _ _ h2, Nat.zero_add, hc, List.getElem?_map, List.getElem?_eq_getElem hk]
    simp [hk]

/-- where ids lie that are asked for: not in the need, nor in its row. -/
def Off (w : World) (q : Nat) (v : Value) (ai : Option Addr) (ids : List Int) : Prop := Holds w ai ids ∧ ∀ b off, ai = some ⟨b, off, none⟩ → 0 < ids.length → b ≠ q ∧ v.ownBlock ≠ some b
theorem Off.below {w w' : World} {q : Nat} {v : Value} {ai : Option Addr} {ids : List Int} (h : Off w q v ai ids) (hb : Below w.heap.size w w') : Off w' q v ai ids := ⟨h.1.below hb, h.2⟩
end

section
open Go.RowKit
set_option maxRecDepth 100000

theorem putRow_blockI (w : World) (n g : Nat) (d : Array Int) (cur : Array Value) (t : TypeId) (os : Array Obj) (hg : w.heap[g]? = some (.cells cur t)) (hs : d.size ≤ cur.size) :
    ∃ cur', (Sort.grow (Sort.putRow (Value.int .i64) (Sort.ahead w n) g 0 d) os).heap[g]? = some (.cells cur' t) ∧ cur'.size = cur.size ∧ cur'.toList.take d.size = d.toList.map (Value.int .i64) := by
  refine ⟨Sort.putCells (Value.int .i64) 0 d cur, ?_, by simp [Sort.putCells], ?_⟩
  · rw [Sort.heap_grow_old _ _ (by simpa using heap_lt hg)]
    show ((w.heap.modify g (Sort.onCells (Sort.putCells (Value.int .i64) 0 d))))[g]? = _
    rw [Array.getElem?_modify, if_pos rfl, hg]
    rfl
  · apply List.ext_getElem?
    intro k
    rw [List.getElem?_take]
    by_cases hk : k < d.size
    · rw [if_pos hk]
      simp only [Sort.putCells, Array.toList_mapIdx, List.getElem?_mapIdx]
      rw [List.getElem?_eq_getElem (by rw [Array.length_toList]; omega)]
      simp [hk]
    · rw [if_neg hk, List.getElem?_eq_none (by rw [List.length_map, Array.length_toList]; omega)]
theorem putRow_grownI (w : World) (n g : Nat) (d : Array Int) (os : Array Obj) : w.grownBy (Sort.grow (Sort.putRow (Value.int .i64) (Sort.ahead w n) g 0 d) os) (some g) := by
  refine ⟨rfl, rfl, rfl, by simp, fun k hk hne => ?_⟩
  rw [Sort.heap_grow_old _ _ (by simpa using hk)]
  show ((w.heap.modify g (Sort.onCells (Sort.putCells (Value.int .i64) 0 d))))[k]? = _
  rw [Array.getElem?_modify, if_neg (fun e => hne (by rw [e]))]

theorem newsOf_one (u : Up) : newsOf [u] = if u.new = 0 then [] else [u.new] := by simp [newsOf]

/-- what Needs hands back. -/
def NeedsPost (s m : List Ob) (us : List Up) (w : World) (e : Ending) (w' : World) : Prop :=
  Below w.heap.size w w' ∧ ((needsE s m us ≠ 0 ∧ e = .returned (.tuple #[.slice none 0 0, .int .i64 (needsE s m us)])) ∨
    (needsE s m us = 0 ∧ ∃ a c, e = .returned (.tuple #[.slice a (needsL s m us).length c, .int .i64 0]) ∧ Holds w' a (needsL s m us)))
theorem NeedsPost.bad {s m : List Ob} {us : List Up} {w w' : World} {r : Int} (hr : needsE s m us = r) (h0 : r ≠ 0) (hb : Below w.heap.size w w') : NeedsPost s m us w (.returned (.tuple #[.slice none 0 0, .int .i64 r])) w' :=
  ⟨hb, .inl ⟨by rw [hr]; exact h0, by rw [hr]⟩⟩
end

section
open Go.RowKit
set_option maxRecDepth 100000

/-- of a block no cell holds a number but 0. -/
def Zero (W : World) (R : Nat) : Prop := ∀ off n, W.cell? ⟨R, off, none⟩ = some (.int .i64 n) → n = 0
theorem Zero.ne {W : World} {R : Nat} (h : Zero W R) {b off : Nat} {n : Int} (hc : W.cell? ⟨b, off, none⟩ = some (.int .i64 n)) (hn : n ≠ 0) : b ≠ R := fun e => hn (h off n (by rw [← e]; exact hc))
/-- a world that differs in one block. -/
structure But (R : Nat) (W W' : World) : Prop where
  size : W'.heap.size = W.heap.size
  cell : ∀ b off, b ≠ R → W'.cell? ⟨b, off, none⟩ = W.cell? ⟨b, off, none⟩
theorem But.refl (R : Nat) (W : World) : But R W W := ⟨rfl, fun _ _ _ => rfl⟩
theorem But.set {R : Nat} {W W' : World} (h : But R W W') (off : Nat) (v : Value) : But R W (W'.setCell ⟨R, off, none⟩ v) :=
  ⟨(World.size_setCell _ _ _).trans h.size, fun b o hb => (sc_other (fun e => hb (congrArg Addr.block e).symm)).trans (h.cell b o hb)⟩
theorem Holds.but {R : Nat} {W W' : World} (h : But R W W') (z : Zero W R) {a : Option Addr} {L : List Int} (hL : Holds W a L) (hn : ∀ i ∈ L, i ≠ 0) : Holds W' a L := by
  intro i hi
  obtain ⟨b, off, e, hlt, hc⟩ := hL i hi
  have hp : 0 < L.length := by omega
  have h0 := hc 0 hp
  have hne : b ≠ R := z.ne h0 (by rw [List.getD_eq_getElem?_getD, List.getElem?_eq_getElem hp]; exact hn _ (List.getElem_mem hp))
  exact ⟨b, off, e, by rw [h.size]; exact hlt, fun j hj => (h.cell b _ hne).trans (hc j hj)⟩
theorem HoldsS.but {R : Nat} {W W' : World} (h : But R W W') (z : Zero W R) {a : Option Addr} {l : List Ob} (hl : HoldsS W a l) (hn : ∀ x ∈ l, x.id ≠ 0 ∧ ∀ i ∈ x.links, i ≠ 0) : HoldsS W' a l := by
  intro i hi
  obtain ⟨b, off, e, hlt, hc⟩ := hl i hi
  refine ⟨b, off, e, by rw [h.size]; exact hlt, fun j hj => ?_⟩
  obtain ⟨sa, sc, x0, x1, x2, x3, x4, x5⟩ := hc j hj
  have hne : b ≠ R := z.ne x0 (hn _ (List.getElem_mem hj)).1
  exact ⟨sa, sc, (h.cell b _ hne).trans x0, (h.cell b _ hne).trans x1, (h.cell b _ hne).trans x2, (h.cell b _ hne).trans x3, x4.but h z (hn _ (List.getElem_mem hj)).2, x5⟩
theorem HoldsR.but {R : Nat} {W W' : World} (h : But R W W') (z : Zero W R) {a : Option Addr} {l : List Rf} (hl : HoldsR W a l) (hn : ∀ x ∈ l, x.id ≠ 0) : HoldsR W' a l := by
  intro i hi
  obtain ⟨b, off, e, hlt, hc⟩ := hl i hi
  refine ⟨b, off, e, by rw [h.size]; exact hlt, fun j hj => ?_⟩
  obtain ⟨x0, x1⟩ := hc j hj
  have hne : b ≠ R := z.ne x1 (hn _ (List.getElem_mem hj))
  exact ⟨(h.cell b _ hne).trans x0, (h.cell b _ hne).trans x1⟩
theorem HoldsU.but {R : Nat} {W W' : World} (h : But R W W') (z : Zero W R) {a : Option Addr} {l : List Up} (hl : HoldsU W a l) (hn : ∀ x ∈ l, x.new ≠ 0) : HoldsU W' a l := by
  intro i hi
  obtain ⟨b, off, e, hlt, hc⟩ := hl i hi
  refine ⟨b, off, e, by rw [h.size]; exact hlt, fun j hj => ?_⟩
  obtain ⟨x0, x1, x2⟩ := hc j hj
  have hne : b ≠ R := z.ne x2 (hn _ (List.getElem_mem hj))
  exact ⟨(h.cell b _ hne).trans x0, (h.cell b _ hne).trans x1, (h.cell b _ hne).trans x2⟩

abbrev zero42 : Obj := .cells #[.slice none 0 0, .slice none 0 0, .int .i64 0, .int .i64 0, .slice none 0 0, .slice none 0 0, .bool false] 36
abbrev zero40 : Obj := .cells #[.slice none 0 0, .slice none 0 0, .bool false] 28
theorem zero42_zero {W : World} {R : Nat} (h : W.heap[R]? = some zero42) : Zero W R := by
  intro off n hc
  rw [cell_of_row W _ _ _ _ _ h] at hc
  match off, hc with
  | 0, hc => cases hc
  | 1, hc => cases hc
  | 2, hc => cases hc; rfl
  | 3, hc => cases hc; rfl
  | 4, hc => cases hc
  | 5, hc => cases hc
  | 6, hc => cases hc
  | k + 7, hc => simp at hc
theorem zero40_zero {W : World} {R : Nat} (h : W.heap[R]? = some zero40) : Zero W R := by
  intro off n hc
  rw [cell_of_row W _ _ _ _ _ h] at hc
  match off, hc with
  | 0, hc => cases hc
  | 1, hc => cases hc
  | 2, hc => cases hc
  | k + 3, hc => simp at hc
theorem shelf_not0 : ∀ x ∈ shelfL, x.id ≠ 0 ∧ ∀ i ∈ x.links, i ≠ 0 := by decide +kernel
theorem names_not0 : ∀ x ∈ namesL, x.id ≠ 0 := by
  intro x hx
  simp only [namesL, List.mem_cons, List.not_mem_nil, or_false] at hx
  rcases hx with rfl | rfl <;> decide
end

section
open Go.RowKit
set_option maxRecDepth 100000

abbrev oc : Ob := ⟨6, 3, [2, 5], tee⟩
def comeL : List Ob := [oc]
def comeU : List Up := [⟨nMain, 3, 6⟩]
theorem beg_try : tryE shelfL namesL comeL comeU false = 0 := by decide +kernel
theorem beg_res : (takeRes shelfL comeL).length = 6 := by decide +kernel
theorem beg_id : lookI (runL namesL comeU) nMain = 6 := by decide +kernel
theorem beg_needsE : needsE (shelfL.take 3) comeL comeU = 0 := by decide +kernel
theorem beg_needL : needL (shelfL.take 3) comeL comeU = [5] := by decide +kernel
theorem beg_needs : needsL (shelfL.take 3) comeL comeU = [5] := by unfold needsL; rw [beg_needL]; simp
theorem beg_push : pushE comeL comeU = 0 := by decide +kernel

theorem holds_ints (w : World) (g : Nat) (x y : Int) (h : w.heap[g]? = some (.cells #[.int .i64 x, .int .i64 y] 3)) : Holds w (some ⟨g, 0, none⟩) [x, y] := by
  intro i hi
  refine ⟨g, 0, rfl, heap_lt h, fun j hj => ?_⟩
  rw [cell_of_row w _ _ _ _ _ h]
  match j, hj with
  | 0, _ => rfl
  | 1, _ => rfl
end

section
open Go.RowKit

def movedB (us : List Up) : Bool := us.any (fun u => u.old != u.new)
theorem movedB_next {us : List Up} {k : Nat} (hk : k < us.length) : movedB (us.take (k + 1)) = (movedB (us.take k) || (us[k].old != us[k].new)) := by
  unfold movedB
  rw [List.take_succ_eq_append_getElem hk, List.any_append]
  simp
theorem movedB_iff {us : List Up} : movedB us = true → ∃ u ∈ us, u.old ≠ u.new := by
  intro h
  obtain ⟨u, hu, e⟩ := List.any_eq_true.1 h
  exact ⟨u, hu, by simpa using e⟩
end
end Go.Proofs.YtehmlpkapjdhkaaGreatDoor
