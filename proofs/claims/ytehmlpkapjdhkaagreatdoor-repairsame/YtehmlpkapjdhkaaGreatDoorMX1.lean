import Derived.Test.YtehmlpkapjdhkaaGreatDoorMG
import Derived.Test.YtehmlpkapjdhkaaGreatDoorML4
namespace Go.Proofs.YtehmlpkapjdhkaaGreatDoor
section
open Go.RowKit
set_option maxRecDepth 100000

/-! What another store has not. -/
def missL (a b : List Ob) : List Ob := a.filter (fun o => decide (placeI b o.id < 0))
def dupE (b : List Ob) : List Ob → Int
  | [] => 0
  | o :: r => if takeE b o ≠ 0 then takeE b o else dupE b r
/-- what diff.Objects answers: its error. -/
def diffE (a b : List Ob) : Int := if checkS a ≠ 0 then checkS a else if checkS b ≠ 0 then checkS b else dupE b a
theorem dupE_zero {b : List Ob} : ∀ {a : List Ob}, dupE b a = 0 ↔ ∀ o ∈ a, takeE b o = 0
  | [] => by simp [dupE]
  | o :: r => by
    unfold dupE
    by_cases h : takeE b o = 0
    · rw [if_neg (fun e => e h), dupE_zero]; simp [h]
    · rw [if_pos h]; simp [h]
theorem diffE_zero {a b : List Ob} : diffE a b = 0 ↔ checkS a = 0 ∧ checkS b = 0 ∧ dupE b a = 0 := by
  unfold diffE
  by_cases h1 : checkS a = 0
  · rw [if_neg (fun e => e h1)]
    by_cases h2 : checkS b = 0
    · rw [if_neg (fun e => e h2)]; simp [h1, h2]
    · rw [if_pos h2]; simp [h2]
  · rw [if_pos h1]; simp [h1]
theorem takeE_zero {b : List Ob} (hr : Rises b) {o : Ob} : takeE b o = 0 ↔ ∀ y ∈ b, y.id = o.id → y = o := by
  rcases placeI_cases b o.id with c | ⟨i, c, hi⟩
  · have h0 : takeE b o = 0 := by
      unfold takeE
      rw [c]
      split
      · rw [if_pos rfl]
      · rfl
    refine ⟨fun _ y hy e => ?_, fun _ => h0⟩
    have := place_mem.2 ⟨y, hy, e⟩
    omega
  · rw [takeE_hit c hi]
    obtain ⟨_, hid⟩ := placeI_get c
    constructor
    · intro h y hy e
      have : b[i] = o := by
        cases hs : sameO b[i].id b[i].kind b[i].links b[i].text o.id o.kind o.links o.text with
        | true => exact sameO_eq hs
        | false => rw [hs] at h; cases h
      rw [← this]
      exact rises_one hr hy (List.getElem_mem hi) (by rw [e, hid])
    · intro h
      rw [h b[i] (List.getElem_mem hi) hid, sameO_refl]; rfl
theorem dupE_agree {a b : List Ob} (ha : Rises a) (hb : Rises b) : dupE b a = 0 ↔ Agree (b ++ a) := by
  rw [dupE_zero]
  constructor
  · intro h x hx y hy e
    rcases List.mem_append.1 hx with hx | hx <;> rcases List.mem_append.1 hy with hy | hy
    · exact rises_one hb hx hy e
    · exact (takeE_zero hb).1 (h y hy) x hx e
    · exact ((takeE_zero hb).1 (h x hx) y hy e.symm).symm
    · exact rises_one ha hx hy e
  · intro h o ho
    exact (takeE_zero hb).2 fun y hy e => h y (List.mem_append_left _ hy) o (List.mem_append_right _ ho) e
theorem missL_mem {a b : List Ob} {x : Ob} : x ∈ missL a b ↔ x ∈ a ∧ placeI b x.id < 0 := by simp [missL]
theorem missL_sub {a b : List Ob} : ∀ x ∈ missL a b, x ∈ a := fun _ h => (missL_mem.1 h).1
theorem missL_rises {a b : List Ob} (h : Rises a) : Rises (missL a b) := List.Pairwise.filter _ h
theorem missL_length (a b : List Ob) : (missL a b).length ≤ a.length := List.length_filter_le _ _
theorem missL_nil {a b : List Ob} (h : ∀ x ∈ a, x ∈ b) : missL a b = [] := by
  rw [List.eq_nil_iff_forall_not_mem]
  intro x hx
  obtain ⟨h1, h2⟩ := missL_mem.1 hx
  have := place_mem.2 ⟨x, h x h1, rfl⟩
  omega
theorem miss_in {a b : List Ob} (hg : Agree (b ++ a)) {x : Ob} (hx : x ∈ a) : x ∈ b ∨ x ∈ missL a b := by
  by_cases h : placeI b x.id < 0
  · exact .inr (missL_mem.2 ⟨hx, h⟩)
  · obtain ⟨y, hy, e⟩ := place_mem.1 (by omega : 0 ≤ placeI b x.id)
    exact .inl (by rw [hg x (List.mem_append_right _ hx) y (List.mem_append_left _ hy) e.symm]; exact hy)
theorem Agree.sub {l m : List Ob} (h : Agree l) (hs : ∀ x ∈ m, x ∈ l) : Agree m := fun x hx y hy e => h x (hs x hx) y (hs y hy) e

/-- a rising list of objects, each right, whose links are where they are in stores, is a store. -/
theorem right_of {U : List Ob} (hr : Rises U) (hl : U.length ≤ 40) (h : ∀ x ∈ U, ∃ A, checkS A = 0 ∧ x ∈ A ∧ ∀ y ∈ A, y.id < x.id → y ∈ U) : checkS U = 0 := by
  refine checkS_iff.2 ⟨hl, fun x hx => ?_, hr⟩
  obtain ⟨A, hA, hxA, hin⟩ := h x hx
  refine ⟨checkS_err hA x hxA, (linkS_iff _ 0).2 fun j hj => ?_⟩
  have hrA := (checkS_iff.1 hA).2.2
  obtain ⟨q1, q2⟩ := (linkS_iff _ 0).1 ((checkS_iff.1 hA).2.1 x hxA).2 j hj
  obtain ⟨z, hz, hzi⟩ := place_mem.1 q1
  have hlt := (right_links hA x hxA _ (List.getElem_mem hj)).2
  have hzU := hin z hz (by rw [hzi]; exact hlt)
  refine ⟨place_mem.2 ⟨z, hzU, hzi⟩, ?_⟩
  rw [← hzi] at q2 ⊢
  rw [kindAt_mem hrA hz] at q2
  rw [kindAt_mem hr hzU]
  exact q2

section
variable {a b : List Ob}
/-- what a store takes of another one. -/
theorem union_mem (ha : checkS a = 0) (hb : checkS b = 0) (hd : dupE b a = 0) {x : Ob} : x ∈ takeRes b (missL a b) ↔ x ∈ b ∨ x ∈ a := by
  have hra := (checkS_iff.1 ha).2.2
  have hrb := (checkS_iff.1 hb).2.2
  have hg := (dupE_agree hra hrb).1 hd
  have ht : takeErr b (missL a b) = 0 := (takeErr_iff _ hrb).2 (hg.sub fun x hx => by
    rcases List.mem_append.1 hx with q | q
    · exact List.mem_append_left _ q
    · exact List.mem_append_right _ (missL_sub x q))
  rw [takeRes_iff ht]
  constructor
  · rintro (q | q)
    · exact .inl q
    · exact .inr (missL_sub x q)
  · rintro (q | q)
    · exact .inl q
    · exact miss_in hg q
theorem union_rises (hb : checkS b = 0) (m : List Ob) : Rises (takeRes b m) := takeRes_rises _ (checkS_iff.1 hb).2.2
theorem union_right (ha : checkS a = 0) (hb : checkS b = 0) (hd : dupE b a = 0) (hl : (takeRes b (missL a b)).length ≤ 40) : checkS (takeRes b (missL a b)) = 0 := by
  refine right_of (union_rises hb _) hl fun x hx => ?_
  rcases (union_mem ha hb hd).1 hx with q | q
  · exact ⟨b, hb, q, fun y hy _ => (union_mem ha hb hd).2 (.inl hy)⟩
  · exact ⟨a, ha, q, fun y hy _ => (union_mem ha hb hd).2 (.inr hy)⟩
/-- behind it nothing is missing. -/
theorem union_diff (ha : checkS a = 0) (hb : checkS b = 0) (hd : dupE b a = 0) (hu : checkS (takeRes b (missL a b)) = 0) :
    (diffE a (takeRes b (missL a b)) = 0 ∧ missL a (takeRes b (missL a b)) = []) ∧ (diffE b (takeRes b (missL a b)) = 0 ∧ missL b (takeRes b (missL a b)) = []) ∧
      diffE (takeRes b (missL a b)) b = 0 ∧ missL (takeRes b (missL a b)) b = missL a b := by
  have hra := (checkS_iff.1 ha).2.2
  have hrb := (checkS_iff.1 hb).2.2
  have hru := (checkS_iff.1 hu).2.2
  have hin : ∀ c : List Ob, (∀ x ∈ c, x ∈ takeRes b (missL a b)) → checkS c = 0 → diffE c (takeRes b (missL a b)) = 0 ∧ missL c (takeRes b (missL a b)) = [] := fun c hs hc =>
    ⟨diffE_zero.2 ⟨hc, hu, dupE_zero.2 fun o ho => (take_there hru (hs o ho)).1⟩, missL_nil hs⟩
  refine ⟨hin a (fun x hx => (union_mem ha hb hd).2 (.inr hx)) ha, hin b (fun x hx => (union_mem ha hb hd).2 (.inl hx)) hb, diffE_zero.2 ⟨hu, hb, ?_⟩, ?_⟩
  · refine dupE_zero.2 fun o ho => ?_
    rcases (union_mem ha hb hd).1 ho with q | q
    · exact (take_there hrb q).1
    · exact dupE_zero.1 hd o q
  · refine rises_ext (missL_rises hru) (missL_rises hra) fun x => ?_
    rw [missL_mem, missL_mem, union_mem ha hb hd]
    constructor
    · rintro ⟨q | q, h⟩
      · have := place_mem.2 ⟨x, q, rfl⟩; omega
      · exact ⟨q, h⟩
    · rintro ⟨q, h⟩; exact ⟨.inr q, h⟩
theorem takeRes_append (m m' : List Ob) : ∀ L : List Ob, takeRes L (m ++ m') = takeRes (takeRes L m) m' := by
  induction m with
  | nil => intro L; rfl
  | cons x m ih => intro L; exact ih _
/-- what is taken in parts: each beginning of what is missing can be taken. -/
theorem union_part (ha : checkS a = 0) (hb : checkS b = 0) (hd : dupE b a = 0) (hl : b.length + (missL a b).length ≤ 40) (n : Nat) : checkS (takeRes b ((missL a b).take n)) = 0 := by
  have hra := (checkS_iff.1 ha).2.2
  have hrb := (checkS_iff.1 hb).2.2
  have hg := (dupE_agree hra hrb).1 hd
  have hsub : ∀ x ∈ (missL a b).take n, x ∈ missL a b := fun x hx => List.mem_of_mem_take hx
  have ht : takeErr b ((missL a b).take n) = 0 := (takeErr_iff _ hrb).2 (hg.sub fun x hx => by
    rcases List.mem_append.1 hx with q | q
    · exact List.mem_append_left _ q
    · exact List.mem_append_right _ (missL_sub x (hsub x q)))
  refine right_of (union_rises hb _) ?_ fun x hx => ?_
  · have h3 := takeRes_length ((missL a b).take n) b
    have h4 : ((missL a b).take n).length ≤ (missL a b).length := by rw [List.length_take]; omega
    omega
  rcases (takeRes_iff ht).1 hx with q | q
  · exact ⟨b, hb, q, fun y hy _ => (takeRes_iff ht).2 (.inl hy)⟩
  · refine ⟨a, ha, missL_sub x (hsub x q), fun y hy hlt => (takeRes_iff ht).2 ?_⟩
    rcases miss_in hg hy with k | k
    · exact .inl k
    · refine .inr ?_
      obtain ⟨i, hi, rfl⟩ := List.mem_iff_getElem.1 q
      obtain ⟨j, hj, rfl⟩ := List.mem_iff_getElem.1 k
      rw [List.getElem_take] at hlt
      rw [List.length_take] at hi
      have hji : j < i := (missL_rises (b := b) hra).of_lt hj (by omega) hlt
      exact List.mem_iff_getElem.2 ⟨j, by rw [List.length_take]; omega, by rw [List.getElem_take]⟩
theorem union_step (ha : checkS a = 0) (hb : checkS b = 0) (hd : dupE b a = 0) (hl : b.length + (missL a b).length ≤ 40) (n k : Nat) (hk : k ≤ 12) :
    addE (takeRes b ((missL a b).take n)) (((missL a b).drop n).take k) = 0 ∧ takeRes (takeRes b ((missL a b).take n)) (((missL a b).drop n).take k) = takeRes b ((missL a b).take (n + k)) := by
  have e : takeRes (takeRes b ((missL a b).take n)) (((missL a b).drop n).take k) = takeRes b ((missL a b).take (n + k)) := by
    rw [← takeRes_append, ← List.take_add]
  have hra := (checkS_iff.1 ha).2.2
  have hrb := (checkS_iff.1 hb).2.2
  have hg := (dupE_agree hra hrb).1 hd
  refine ⟨addE_iff.2 ⟨union_part ha hb hd hl n, by rw [List.length_take]; omega, fun x hx => checkS_err ha x (missL_sub x (List.mem_of_mem_drop (List.mem_of_mem_take hx))), ?_, by rw [e]; exact union_part ha hb hd hl (n + k)⟩, e⟩
  refine hg.sub fun x hx => ?_
  rcases List.mem_append.1 hx with q | q
  · rcases takeRes_mem q with q | q
    · exact List.mem_append_left _ q
    · exact List.mem_append_right _ (missL_sub x (List.mem_of_mem_take q))
  · exact List.mem_append_right _ (missL_sub x (List.mem_of_mem_drop (List.mem_of_mem_take q)))
end

/-- refs of a store are refs of a greater one. -/
theorem refs_more {l : List Rf} {s t : List Ob} (h : refsE l s = 0) (ht : checkS t = 0) (hs : ∀ x ∈ s, x ∈ t) : refsE l t = 0 := by
  obtain ⟨hc, h2, h3, h4⟩ := refsE_iff.1 h
  refine refsE_iff.2 ⟨ht, h2, (eachR_iff _ _).2 ⟨fun r hr => ?_, ((eachR_iff _ _).1 h3).2⟩, h4⟩
  obtain ⟨q1, q2, q3⟩ := ((eachR_iff _ _).1 h3).1 r hr
  refine ⟨q1, ?_, q3⟩
  unfold commitE at q2 ⊢
  split at q2
  · omega
  rename_i c1
  split at q2
  · omega
  rename_i c2
  obtain ⟨z, hz, hzi⟩ := place_mem.1 (by omega : 0 ≤ placeI s r.id)
  have hzt := hs z hz
  rw [if_neg (by have := place_mem.2 ⟨z, hzt, hzi⟩; omega), if_neg]
  rw [← hzi] at c2 ⊢
  rw [kindAt_mem (checkS_iff.1 hc).2.2 hz] at c2
  rw [kindAt_mem (checkS_iff.1 ht).2.2 hzt]
  exact c2
end

section
open Go.RowKit
set_option maxRecDepth 100000

/-! Repair of a replica. -/
def togE (a b : List Ob) : Int := if diffE a b ≠ 0 then diffE a b else if 40 < b.length + (missL a b).length then 2 else 0
def fromE (n r : Rp) : Int := if n.err ≠ 0 then n.err else if r.err ≠ 0 then r.err else if n.g < r.g then 4 else togE n.s r.s
def fromR (n r : Rp) : Rp := ⟨takeRes r.s (missL n.s r.s), n.l, n.g, 0, [], [], false⟩
theorem togE_zero {a b : List Ob} : togE a b = 0 ↔ diffE a b = 0 ∧ b.length + (missL a b).length ≤ 40 := by
  unfold togE
  by_cases h1 : diffE a b = 0
  · rw [if_neg (fun e => e h1)]
    by_cases h2 : 40 < b.length + (missL a b).length
    · rw [if_pos h2]; constructor
      · intro h; cases h
      · intro h; omega
    · rw [if_neg h2]; simp [h1]; omega
  · rw [if_pos h1]; simp [h1]
theorem fromE_zero {n r : Rp} : fromE n r = 0 ↔ n.err = 0 ∧ r.err = 0 ∧ r.g ≤ n.g ∧ togE n.s r.s = 0 := by
  unfold fromE
  by_cases h1 : n.err = 0
  · rw [if_neg (fun e => e h1)]
    by_cases h2 : r.err = 0
    · rw [if_neg (fun e => e h2)]
      by_cases h3 : n.g < r.g
      · rw [if_pos h3]; constructor
        · intro h; cases h
        · intro h; omega
      · rw [if_neg h3]; simp [h1, h2]; omega
    · rw [if_pos h2]; simp [h2]
  · rw [if_pos h1]; simp [h1]
theorem err_refs {r : Rp} (h : r.err = 0) : refsE r.l r.s = 0 := (repE_iff.1 h).1
theorem err_store {r : Rp} (h : r.err = 0) : checkS r.s = 0 := (refsE_iff.1 (err_refs h)).1
theorem tog_right {a b : List Ob} (h : togE a b = 0) : checkS a = 0 ∧ checkS b = 0 ∧ dupE b a = 0 ∧ checkS (takeRes b (missL a b)) = 0 := by
  obtain ⟨h1, h2⟩ := togE_zero.1 h
  obtain ⟨ha, hb, hd⟩ := diffE_zero.1 h1
  refine ⟨ha, hb, hd, union_right ha hb hd ?_⟩
  have := takeRes_length (missL a b) b
  omega
theorem from_mem {n r : Rp} (h : fromE n r = 0) {x : Ob} : x ∈ (fromR n r).s ↔ x ∈ r.s ∨ x ∈ n.s := by
  obtain ⟨ha, hb, hd, _⟩ := tog_right (fromE_zero.1 h).2.2.2
  exact union_mem ha hb hd
theorem from_store {n r : Rp} (h : fromE n r = 0) : checkS (fromR n r).s = 0 := (tog_right (fromE_zero.1 h).2.2.2).2.2.2
theorem from_right {n r : Rp} (h : fromE n r = 0) : (fromR n r).err = 0 := by
  obtain ⟨hn, _, _, _⟩ := fromE_zero.1 h
  have h1 : refsE n.l (fromR n r).s = 0 := refs_more (err_refs hn) (from_store h) fun x hx => (from_mem h).2 (.inr hx)
  have h2 := err_gen hn
  exact rep_idle (s := (fromR n r).s) (l := n.l) (g := n.g) h1 h2
theorem from_again {n r : Rp} (h : fromE n r = 0) : fromE n (fromR n r) = 0 ∧ fromR n (fromR n r) = fromR n r := by
  obtain ⟨hn, hr, _, ht⟩ := fromE_zero.1 h
  obtain ⟨ha, hb, hd, hu⟩ := tog_right ht
  obtain ⟨⟨q1, q2⟩, _⟩ := union_diff ha hb hd hu
  have hm : missL n.s (fromR n r).s = [] := q2
  refine ⟨fromE_zero.2 ⟨hn, from_right h, Int.le_refl _, togE_zero.2 ⟨q1, ?_⟩⟩, ?_⟩
  · rw [hm]
    have := (checkS_zero hu).1
    exact this
  · show (⟨takeRes (fromR n r).s (missL n.s (fromR n r).s), n.l, n.g, 0, [], [], false⟩ : Rp) = fromR n r
    rw [hm]; rfl
theorem from_diff {n r : Rp} (h : fromE n r = 0) : (diffE n.s (fromR n r).s = 0 ∧ missL n.s (fromR n r).s = []) ∧ diffE r.s (fromR n r).s = 0 ∧ missL r.s (fromR n r).s = [] := by
  obtain ⟨_, _, _, ht⟩ := fromE_zero.1 h
  obtain ⟨ha, hb, hd, hu⟩ := tog_right ht
  obtain ⟨q1, q2, _⟩ := union_diff ha hb hd hu
  exact ⟨q1, q2⟩
theorem from_find {n r : Rp} (h : fromE n r = 0) {x : Ob} (hx : x ∈ n.s ++ r.s) : ∃ i, ∃ hi : i < (fromR n r).s.length, (fromR n r).s[i] = x ∧ placeI (fromR n r).s x.id = i := by
  have hm : x ∈ (fromR n r).s := (from_mem h).2 (by
    rcases List.mem_append.1 hx with q | q
    · exact .inr q
    · exact .inl q)
  obtain ⟨i, hi, rfl⟩ := List.mem_iff_getElem.1 hm
  exact ⟨i, hi, rfl, placeI_rise (checkS_iff.1 (from_store h)).2.2 hi⟩

/-! Replicas put in the place of others. -/
def l3 (R : Nat → Rp) : List Rp := [R 0, R 1, R 2]
abbrev top (l : List Rp) : Rp := rOf l (bestI l)
/-! Repair of all. -/
def menB (l : List Rp) (i : Nat) : Bool := !((rOf l i).g == (top l).g)
def menR (l : List Rp) (i : Nat) : Rp := if menB l i = true then fromR (top l) (rOf l i) else rOf l i
def menV (l : List Rp) (i : Nat) : Int := if menB l i = true then fromE (top l) (rOf l i) else 0
def allE (l : List Rp) : Int := if checkC l ≠ 0 then checkC l else fstE (menV l)
def allL (l : List Rp) : List Rp := l3 (menR l)
end
end Go.Proofs.YtehmlpkapjdhkaaGreatDoor
