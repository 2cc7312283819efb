import Derived.Test.YtlkpmcegjplafaaGreatDoorMR
import Derived.Laws.StructEq
import Derived.Shelf.Slices.In.SortNone
namespace Go.Proofs.YtlkpmcegjplafaaGreatDoor
section
open Go.RowKit
theorem checkS_ids {o : List Ob} (h : checkS o = 0) : ∀ x ∈ o, 1 ≤ x.id := fun x hx => by
  have := (checkE_zero ((checkS_iff.1 h).2.1 x hx).1)
  omega
theorem name_eq {x y : ByteArray} : (x.toList == y.toList) = true ↔ x = y := by
  rw [beq_iff_eq, ByteArray.toList_eq, ByteArray.toList_eq]
  constructor
  · intro h
    have := Array.toList_inj.1 h
    cases x; cases y; simpa using this
  · intro h; rw [h]
theorem sameN_iff {nm : ByteArray} {r : Rf} : sameN nm r = true ↔ r.name = nm := name_eq
theorem sameN_not {nm : ByteArray} {r : Rf} : sameN nm r = false ↔ r.name ≠ nm := by
  constructor
  · intro h e; rw [sameN_iff.2 e] at h; cases h
  · intro h
    cases q : sameN nm r with
    | false => rfl
    | true => exact absurd (sameN_iff.1 q) h
theorem ltN.neq {x y : ByteArray} (h : ltN x y) : x ≠ y := fun e => by
  have := h.ne
  rw [e] at this; simp at this
theorem ltN.irrefl (x : ByteArray) : ¬ ltN x x := fun h => h.neq rfl
theorem ltN.asymm {x y : ByteArray} (h : ltN x y) : ¬ ltN y x := fun h' => ltN.irrefl x (h.trans h')
theorem ltN.total {x y : ByteArray} (h : ¬ ltN x y) (hne : x ≠ y) : ltN y x :=
  less_total _ _ (by simpa [ltN] using h) (fun e => hne (name_eq.1 (by simpa using e)))

/-- rising by name. -/
def SortR (l : List Rf) : Prop := l.Pairwise (fun x y => ltN x.name y.name)
theorem SortR.nodup {l : List Rf} (h : SortR l) : l.Nodup := List.Pairwise.imp (fun {a b} q e => by rw [e] at q; exact ltN.irrefl _ q) h
theorem SortR.ext {l m : List Rf} (h1 : SortR l) (h2 : SortR m) (h : ∀ r, r ∈ l ↔ r ∈ m) : l = m := by
  have hp : l.Perm m := (List.perm_ext_iff_of_nodup h1.nodup h2.nodup).2 h
  exact hp.eq_of_pairwise (fun a b _ _ q1 q2 => absurd q2 q1.asymm) h1 h2
theorem SortR.one {l : List Rf} (h : SortR l) {x y : Rf} (hx : x ∈ l) (hy : y ∈ l) (e : x.name = y.name) : x = y := by
  induction l with
  | nil => cases hx
  | cons z l ih =>
    obtain ⟨q1, q2⟩ := List.pairwise_cons.1 h
    rcases List.mem_cons.1 hx with hx | hx
    · rcases List.mem_cons.1 hy with hy | hy
      · rw [hx, hy]
      · rw [hx] at e; exact absurd e (q1 y hy).neq
    · rcases List.mem_cons.1 hy with hy | hy
      · rw [hy] at e; exact absurd e.symm (q1 x hx).neq
      · exact ih q2 hx hy

/-- what a name is of, or 0. -/
def lookI (l : List Rf) (nm : ByteArray) : Int := ((l.find? (sameN nm)).map Rf.id).getD 0
theorem look_none {l : List Rf} {nm : ByteArray} (h : ∀ r ∈ l, r.name ≠ nm) : lookI l nm = 0 := by
  unfold lookI
  rw [List.find?_eq_none.2 (fun x hx => by rw [sameN_not.2 (h x hx)]; decide)]
  rfl
theorem look_mem {l : List Rf} (hs : SortR l) {r : Rf} (h : r ∈ l) : lookI l r.name = r.id := by
  unfold lookI
  cases q : l.find? (sameN r.name) with
  | none => exact absurd (List.find?_eq_none.1 q r h) (by rw [sameN_iff.2 rfl]; simp)
  | some x =>
    have h1 := List.mem_of_find?_eq_some q
    have h2 := List.find?_some q
    rw [hs.one h1 h (sameN_iff.1 h2)]
    rfl
theorem look_inv {l : List Rf} {nm : ByteArray} (h : lookI l nm ≠ 0) : ∃ r ∈ l, r.name = nm ∧ r.id = lookI l nm := by
  unfold lookI at h ⊢
  cases q : l.find? (sameN nm) with
  | none => rw [q] at h; exact absurd rfl h
  | some x => exact ⟨x, List.mem_of_find?_eq_some q, sameN_iff.1 (List.find?_some q), rfl⟩
theorem getI_look {l : List Rf} {nm : ByteArray} (hn : nameE nm = 0) : getI l nm = lookI l nm := by
  have he : getE l nm = if indexR (sameN nm) l < 0 then 5 else 0 := by rw [getE, if_neg (fun e => e hn)]
  rcases indexR_cases (sameN nm) l with ⟨h1, h2⟩ | ⟨i, h1, hi, h2, h3⟩
  · rw [getI, if_pos (by rw [he, if_pos (by omega)]; decide), look_none (fun r hr => sameN_not.1 (h2 r hr))]
  · rw [getI, if_neg (by rw [he, if_neg (by omega)]; decide), h1]
    unfold lookI
    have : l.find? (sameN nm) = some l[i] := by
      rw [List.find?_eq_some_iff_getElem]
      exact ⟨h2, i, hi, rfl, fun j hj => by simpa using h3 j (by omega) hj⟩
    rw [this]
    simp [hi]
theorem look_ext {l m : List Rf} (h1 : SortR l) (h2 : SortR m) (z1 : ∀ r ∈ l, r.id ≠ 0) (z2 : ∀ r ∈ m, r.id ≠ 0) (h : ∀ nm, lookI l nm = lookI m nm) : l = m := by
  have key : ∀ {a b : List Rf}, SortR a → (∀ r ∈ a, r.id ≠ 0) → (∀ nm, lookI a nm = lookI b nm) → ∀ r ∈ a, r ∈ b := by
    intro a b ha za hab r hr
    have e := look_mem ha hr
    obtain ⟨x, hx, n1, n2⟩ := look_inv (l := b) (nm := r.name) (by rw [← hab, e]; exact za r hr)
    rw [← hab, e] at n2
    have : x = r := by cases x; cases r; simp only at n1 n2; rw [n1, n2]
    rw [← this]; exact hx
  exact h1.ext h2 fun r => ⟨key h1 z1 h r, key h2 z2 (fun nm => (h nm).symm) r⟩

/-- a ref set to its place. -/
def insR (x : Rf) : List Rf → List Rf
  | [] => [x]
  | y :: l => if Op.bytesLess y.name.toList x.name.toList then y :: insR x l else x :: y :: l
theorem insR_perm (x : Rf) : ∀ l, (insR x l).Perm (l ++ [x])
  | [] => List.Perm.refl _
  | y :: l => by
    rw [insR]
    split
    · exact (insR_perm x l).cons y
    · exact (List.perm_append_singleton x (y :: l)).symm
theorem insR_mem {x : Rf} {l : List Rf} {r : Rf} : r ∈ insR x l ↔ r = x ∨ r ∈ l := by
  rw [(insR_perm x l).mem_iff, List.mem_append, List.mem_singleton]; exact Or.comm
theorem insR_sort {x : Rf} : ∀ {l : List Rf}, SortR l → (∀ r ∈ l, r.name ≠ x.name) → SortR (insR x l)
  | [], _, _ => List.pairwise_singleton _ _
  | y :: l, h, hn => by
    obtain ⟨q1, q2⟩ := List.pairwise_cons.1 h
    rw [insR]
    split
    · rename_i c
      refine List.pairwise_cons.2 ⟨fun r hr => ?_, insR_sort q2 (fun r hr => hn r (List.mem_cons_of_mem _ hr))⟩
      rcases insR_mem.1 hr with rfl | hr
      · exact c
      · exact q1 r hr
    · rename_i c
      have hxy : ltN x.name y.name := ltN.total c (hn y (List.mem_cons_self ..))
      refine List.pairwise_cons.2 ⟨fun r hr => ?_, h⟩
      rcases List.mem_cons.1 hr with rfl | hr
      · exact hxy
      · exact hxy.trans (q1 r hr)

/-- names without one. -/
def dropR (l : List Rf) (nm : ByteArray) : List Rf := l.filter (fun r => !sameN nm r)
/-- a name made of an id, or gone. -/
def changeL (l : List Rf) (nm : ByteArray) (id : Int) : List Rf := if id = 0 then dropR l nm else insR ⟨nm, id⟩ (dropR l nm)
theorem dropR_mem {l : List Rf} {nm : ByteArray} {r : Rf} : r ∈ dropR l nm ↔ r ∈ l ∧ r.name ≠ nm := by
  unfold dropR
  rw [List.mem_filter, Bool.not_eq_true', sameN_not]
theorem dropR_sort {l : List Rf} (h : SortR l) (nm : ByteArray) : SortR (dropR l nm) := List.Pairwise.filter _ h
theorem change_sort {l : List Rf} (h : SortR l) (nm : ByteArray) (id : Int) : SortR (changeL l nm id) := by
  unfold changeL
  split
  · exact dropR_sort h nm
  · exact insR_sort (dropR_sort h nm) (fun r hr => (dropR_mem.1 hr).2)
theorem change_mem {l : List Rf} {nm : ByteArray} {id : Int} {r : Rf} : r ∈ changeL l nm id ↔ (r ∈ l ∧ r.name ≠ nm) ∨ (id ≠ 0 ∧ r = ⟨nm, id⟩) := by
  unfold changeL
  split
  · rename_i h
    rw [dropR_mem]
    constructor
    · exact .inl
    · rintro (h1 | ⟨h1, _⟩)
      · exact h1
      · exact absurd h h1
  · rename_i h
    rw [insR_mem, dropR_mem]
    constructor
    · rintro (h1 | h1)
      · exact .inr ⟨h, h1⟩
      · exact .inl h1
    · rintro (h1 | ⟨_, h1⟩)
      · exact .inr h1
      · exact .inl h1
theorem change_look {l : List Rf} (h : SortR l) (nm : ByteArray) (id : Int) (k : ByteArray) : lookI (changeL l nm id) k = if k = nm then id else lookI l k := by
  have hs := change_sort h nm id
  split
  · rename_i e
    subst e
    by_cases z : id = 0
    · rw [look_none, z]
      intro r hr
      rcases change_mem.1 hr with q | ⟨q, _⟩
      · exact q.2
      · exact absurd z q
    · exact look_mem hs (r := ⟨k, id⟩) (change_mem.2 (.inr ⟨z, rfl⟩))
  · rename_i e
    by_cases hk : ∃ r ∈ l, r.name = k
    · obtain ⟨r, hr, rfl⟩ := hk
      rw [look_mem h hr]
      exact look_mem hs (change_mem.2 (.inl ⟨hr, e⟩))
    · rw [look_none (fun r hr q => hk ⟨r, hr, q⟩)]
      refine look_none fun r hr q => ?_
      rcases change_mem.1 hr with q1 | ⟨_, q1⟩
      · exact hk ⟨r, q1.1, q⟩
      · rw [q1] at q; exact e q.symm
theorem insR_length (x : Rf) (l : List Rf) : (insR x l).length = l.length + 1 := by
  rw [(insR_perm x l).length_eq, List.length_append]; rfl
theorem change_length (l : List Rf) (nm : ByteArray) (id : Int) : (changeL l nm id).length ≤ l.length + 1 := by
  have : (dropR l nm).length ≤ l.length := List.length_filter_le _ _
  unfold changeL
  split
  · omega
  · rw [insR_length]; omega

/-- an update, as data. -/
structure Up where
  name : ByteArray
  old : Int
  new : Int
def okId (n : Int) : Bool := decide (0 ≤ n) && decide (n ≤ 99)
def sameU (nm : ByteArray) (u : Up) : Bool := u.name.toList == nm.toList
/-- what join answers. -/
def joinE (q : List Up) (u : Up) : Int :=
  if nameE u.name ≠ 0 then nameE u.name else if !(okId u.old) || !(okId u.new) then 3 else if u.old = 0 ∧ u.new = 0 then 1 else if q.any (sameU u.name) then 6 else 0
def eachU : List Up → List Up → Int
  | _, [] => 0
  | q, u :: us => if joinE q u ≠ 0 then joinE q u else eachU (q ++ [u]) us
/-- what Check of updates answers. -/
def checkU (us : List Up) : Int := if us.length = 0 then 5 else if 4 < us.length then 2 else eachU [] us
/-- an update that is right by itself. -/
structure RightU (u : Up) : Prop where
  name : nameE u.name = 0
  o0 : 0 ≤ u.old
  o1 : u.old ≤ 99
  n0 : 0 ≤ u.new
  n1 : u.new ≤ 99
  not : ¬ (u.old = 0 ∧ u.new = 0)
theorem okId_iff {n : Int} : okId n = true ↔ 0 ≤ n ∧ n ≤ 99 := by simp [okId]
theorem joinE_iff {q : List Up} {u : Up} : joinE q u = 0 ↔ RightU u ∧ ∀ x ∈ q, x.name ≠ u.name := by
  unfold joinE
  constructor
  · intro h
    split at h
    · rename_i c; exact absurd h c
    rename_i c1
    split at h
    · omega
    rename_i c2
    split at h
    · omega
    rename_i c3
    split at h
    · omega
    rename_i c4
    simp only [Bool.or_eq_true, Bool.not_eq_true', not_or, Bool.not_eq_false, okId_iff] at c2
    refine ⟨⟨Classical.byContradiction c1, c2.1.1, c2.1.2, c2.2.1, c2.2.2, c3⟩, fun x hx e => c4 ?_⟩
    exact List.any_eq_true.2 ⟨x, hx, name_eq.2 e⟩
  · rintro ⟨r, hq⟩
    rw [if_neg (fun e => e r.name), if_neg (by simp [okId, r.o0, r.o1, r.n0, r.n1]), if_neg r.not, if_neg]
    intro q
    obtain ⟨x, hx, q⟩ := List.any_eq_true.1 q
    exact hq x hx (name_eq.1 q)
theorem eachU_iff : ∀ (us q : List Up), eachU q us = 0 ↔ (∀ u ∈ us, RightU u ∧ ∀ x ∈ q, x.name ≠ u.name) ∧ us.Pairwise (fun x y => x.name ≠ y.name)
  | [], q => by simp [eachU]
  | u :: us, q => by
    rw [eachU, List.pairwise_cons]
    constructor
    · intro h
      split at h
      · rename_i c; exact absurd h c
      rename_i c
      obtain ⟨r, hq⟩ := joinE_iff.1 (Classical.byContradiction c)
      obtain ⟨h1, h2⟩ := (eachU_iff us _).1 h
      refine ⟨fun v hv => ?_, fun y hy => (h1 y hy).2 u (by simp), h2⟩
      rcases List.mem_cons.1 hv with rfl | hv
      · exact ⟨r, hq⟩
      · exact ⟨(h1 v hv).1, fun x hx => (h1 v hv).2 x (by simp [hx])⟩
    · rintro ⟨h1, h2, h3⟩
      rw [if_neg (fun e => e (joinE_iff.2 (h1 u (by simp))))]
      refine (eachU_iff us _).2 ⟨fun v hv => ⟨(h1 v (by simp [hv])).1, fun x hx => ?_⟩, h3⟩
      rcases List.mem_append.1 hx with hx | hx
      · exact (h1 v (by simp [hv])).2 x hx
      · rw [List.mem_singleton.1 hx]; exact h2 v hv
/-- no name twice. -/
abbrev Apart (us : List Up) : Prop := us.Pairwise (fun x y => x.name ≠ y.name)
theorem checkU_iff {us : List Up} : checkU us = 0 ↔ 0 < us.length ∧ us.length ≤ 4 ∧ (∀ u ∈ us, RightU u) ∧ Apart us := by
  unfold checkU
  constructor
  · intro h
    split at h
    · omega
    split at h
    · omega
    obtain ⟨h1, h2⟩ := (eachU_iff us []).1 h
    exact ⟨by omega, by omega, fun u hu => (h1 u hu).1, h2⟩
  · rintro ⟨h1, h2, h3, h4⟩
    rw [if_neg (by omega), if_neg (by omega)]
    exact (eachU_iff us []).2 ⟨fun u hu => ⟨h3 u hu, fun x hx => by cases hx⟩, h4⟩
theorem Apart.reverse {us : List Up} (h : Apart us) : Apart us.reverse := List.pairwise_reverse.2 (h.imp fun q => q.symm)
theorem checkU_reverse {us : List Up} (h : checkU us = 0) : checkU us.reverse = 0 := by
  obtain ⟨h1, h2, h3, h4⟩ := checkU_iff.1 h
  exact checkU_iff.2 ⟨by simpa using h1, by simpa using h2, fun u hu => h3 u (by simpa using hu), h4.reverse⟩
theorem checkU_reverse_iff {us : List Up} : checkU us.reverse = 0 ↔ checkU us = 0 :=
  ⟨fun h => by have := checkU_reverse h; rwa [List.reverse_reverse] at this, checkU_reverse⟩

/-- what mayBecome answers. -/
def mayE (o : List Ob) (force : Bool) (u : Up) : Int :=
  if behindE o (if u.old = 0 then u.new else u.old) u.new ≠ 0 then behindE o (if u.old = 0 then u.new else u.old) u.new
  else if behindB o (if u.old = 0 then u.new else u.old) u.new || force then 0 else 4
/-- what follow answers. -/
def followE (o : List Ob) (force : Bool) (l : List Rf) (u : Up) : Int := if getI l u.name ≠ u.old then 4 else if u.new = 0 then 0 else mayE o force u
def runE (o : List Ob) (force : Bool) : List Rf → List Up → Int
  | _, [] => 0
  | l, u :: us => if followE o force l u ≠ 0 then followE o force l u else runE o force (changeL l u.name u.new) us
def runL : List Rf → List Up → List Rf
  | l, [] => l
  | l, u :: us => runL (changeL l u.name u.new) us
/-- what Apply answers. -/
def applyE (l : List Rf) (o : List Ob) (us : List Up) (force : Bool) : Int :=
  if refsE l o ≠ 0 then refsE l o else if checkU us ≠ 0 then checkU us else if runE o force l us ≠ 0 then runE o force l us else refsE (runL l us) o
theorem applyE_iff {l : List Rf} {o : List Ob} {us : List Up} {force : Bool} : applyE l o us force = 0 ↔ refsE l o = 0 ∧ checkU us = 0 ∧ runE o force l us = 0 ∧ refsE (runL l us) o = 0 := by
  unfold applyE
  constructor
  · intro h
    split at h
    · rename_i c; exact absurd h c
    rename_i c1
    split at h
    · rename_i c; exact absurd h c
    rename_i c2
    split at h
    · rename_i c; exact absurd h c
    rename_i c3
    exact ⟨Classical.byContradiction c1, Classical.byContradiction c2, Classical.byContradiction c3, h⟩
  · rintro ⟨h1, h2, h3, h4⟩
    rw [if_neg (fun e => e h1), if_neg (fun e => e h2), if_neg (fun e => e h3), h4]

theorem runL_sort : ∀ (us : List Up) {l : List Rf}, SortR l → SortR (runL l us)
  | [], _, h => h
  | _ :: us, _, h => runL_sort us (change_sort h _ _)
theorem runL_length : ∀ (us : List Up) (l : List Rf), (runL l us).length ≤ l.length + us.length
  | [], _ => by simp [runL]
  | u :: us, l => by
    have h1 := runL_length us (changeL l u.name u.new)
    have h2 := change_length l u.name u.new
    rw [runL, List.length_cons]; omega
theorem runL_ids : ∀ (us : List Up) {l : List Rf}, (∀ r ∈ l, r.id ≠ 0) → ∀ r ∈ runL l us, r.id ≠ 0
  | [], _, h => h
  | u :: us, l, h => by
    rw [runL]
    refine runL_ids us fun r hr => ?_
    rcases change_mem.1 hr with q | ⟨q, e⟩
    · exact h r q.1
    · rw [e]; exact q
/-- what updates make of a name. -/
def newOf (us : List Up) (nm : ByteArray) : Option Int := (us.find? (sameU nm)).map Up.new
theorem sameU_iff {nm : ByteArray} {u : Up} : sameU nm u = true ↔ u.name = nm := name_eq
theorem newOf_none {us : List Up} {nm : ByteArray} (h : ∀ u ∈ us, u.name ≠ nm) : newOf us nm = none := by
  unfold newOf
  rw [List.find?_eq_none.2 (fun x hx q => h x hx (sameU_iff.1 q))]; rfl
theorem newOf_mem : ∀ {us : List Up}, Apart us → ∀ {u : Up}, u ∈ us → newOf us u.name = some u.new
  | [], _, _, h => by cases h
  | v :: us, hp, u, h => by
    obtain ⟨q1, q2⟩ := List.pairwise_cons.1 hp
    unfold newOf
    rcases List.mem_cons.1 h with rfl | h
    · rw [List.find?_cons_of_pos (sameU_iff.2 rfl)]; rfl
    · rw [List.find?_cons_of_neg (fun e => q1 u h (sameU_iff.1 e))]
      exact newOf_mem q2 h
theorem runL_look : ∀ (us : List Up), Apart us → ∀ {l : List Rf}, SortR l → ∀ nm, lookI (runL l us) nm = (newOf us nm).getD (lookI l nm)
  | [], _, l, _, nm => rfl
  | u :: us, hp, l, hs, nm => by
    obtain ⟨q1, q2⟩ := List.pairwise_cons.1 hp
    rw [runL, runL_look us q2 (change_sort hs _ _), change_look hs]
    by_cases e : nm = u.name
    · rw [if_pos e, newOf_none (fun v hv => by rw [e]; exact (q1 v hv).symm), e, newOf_mem hp (List.mem_cons_self ..)]
      rfl
    · rw [if_neg e]
      have : newOf (u :: us) nm = newOf us nm := by
        unfold newOf
        rw [List.find?_cons_of_neg (fun q => e (sameU_iff.1 q).symm)]
      rw [this]
/-- may an update be done? -/
def Does (o : List Ob) (force : Bool) (l : List Rf) (u : Up) : Prop := lookI l u.name = u.old ∧ (u.new ≠ 0 → mayE o force u = 0)
theorem followE_iff {o : List Ob} {force : Bool} {l : List Rf} {u : Up} (hn : nameE u.name = 0) : followE o force l u = 0 ↔ Does o force l u := by
  unfold followE Does
  rw [getI_look hn]
  constructor
  · intro h
    split at h
    · omega
    rename_i c
    refine ⟨Classical.byContradiction c, fun z => ?_⟩
    rwa [if_neg z] at h
  · rintro ⟨h1, h2⟩
    rw [if_neg (fun e => e h1)]
    split
    · rfl
    · rename_i z; exact h2 z
theorem runE_iff {o : List Ob} {force : Bool} : ∀ (us : List Up), (∀ u ∈ us, nameE u.name = 0) → Apart us → ∀ {l : List Rf}, SortR l → (runE o force l us = 0 ↔ ∀ u ∈ us, Does o force l u)
  | [], _, _, _, _ => by simp [runE]
  | u :: us, hn, hp, l, hs => by
    obtain ⟨q1, q2⟩ := List.pairwise_cons.1 hp
    have hu := hn u (by simp)
    have ih := runE_iff (o := o) (force := force) us (fun v hv => hn v (by simp [hv])) q2 (change_sort hs u.name u.new)
    have same : ∀ v ∈ us, (Does o force (changeL l u.name u.new) v ↔ Does o force l v) := fun v hv => by
      unfold Does
      rw [change_look hs, if_neg (q1 v hv).symm]
    rw [runE]
    constructor
    · intro h
      split at h
      · rename_i c; exact absurd h c
      rename_i c
      intro v hv
      rcases List.mem_cons.1 hv with rfl | hv
      · exact (followE_iff hu).1 (Classical.byContradiction c)
      · exact (same v hv).1 (ih.1 h v hv)
    · intro h
      rw [if_neg (fun e => e ((followE_iff hu).2 (h u (by simp))))]
      exact ih.2 fun v hv => (same v hv).2 (h v (by simp [hv]))

theorem refs_sort {l : List Rf} {o : List Ob} (h : refsE l o = 0) : SortR l := ((eachR_iff _ _).1 (refsE_iff.1 h).2.2.1).2
theorem refs_isC {l : List Rf} {o : List Ob} (h : refsE l o = 0) {r : Rf} (hr : r ∈ l) : IsC o r.id := (behindE_iff.1 (refs_commit h hr).1).2.1
theorem isC_pos {o : List Ob} (h : checkS o = 0) {i : Int} (hi : IsC o i) : i ≠ 0 := by
  obtain ⟨x, hx, e⟩ := hi.1
  have := checkS_ids h x hx
  omega
theorem refs_ids {l : List Rf} {o : List Ob} (h : refsE l o = 0) : ∀ r ∈ l, r.id ≠ 0 := fun _ hr => isC_pos (refsE_iff.1 h).1 (refs_isC h hr)

/-- THE ORDER OF UPDATES DOES NOT MATTER. -/
theorem apply_turned {l : List Rf} {o : List Ob} {us : List Up} {force : Bool} (h : applyE l o us force = 0) : applyE l o us.reverse force = 0 ∧ runL l us.reverse = runL l us := by
  obtain ⟨h1, h2, h3, h4⟩ := applyE_iff.1 h
  obtain ⟨c1, c2, c3, c4⟩ := checkU_iff.1 h2
  have hs := refs_sort h1
  have hr : ∀ u ∈ us.reverse, nameE u.name = 0 := fun u hu => (c3 u (by simpa using hu)).name
  have hd := (runE_iff us (fun u hu => (c3 u hu).name) c4 hs).1 h3
  have hl : runL l us.reverse = runL l us := by
    refine look_ext (runL_sort _ hs) (runL_sort _ hs) (runL_ids _ (refs_ids h1)) (runL_ids _ (refs_ids h1)) fun nm => ?_
    rw [runL_look _ c4.reverse hs, runL_look _ c4 hs]
    by_cases hx : ∃ u ∈ us, u.name = nm
    · obtain ⟨u, hu, rfl⟩ := hx
      rw [newOf_mem c4 hu, newOf_mem c4.reverse (by simpa using hu)]
    · rw [newOf_none (fun u hu e => hx ⟨u, hu, e⟩), newOf_none (fun u hu e => hx ⟨u, by simpa using hu, e⟩)]
  refine ⟨applyE_iff.2 ⟨h1, checkU_reverse h2, (runE_iff _ hr c4.reverse hs).2 fun u hu => hd u (by simpa using hu), ?_⟩, hl⟩
  rw [hl]; exact h4
theorem apply_turned_iff {l : List Rf} {o : List Ob} {us : List Up} {force : Bool} : applyE l o us.reverse force = 0 ↔ applyE l o us force = 0 :=
  ⟨fun h => by have := (apply_turned h).1; rwa [List.reverse_reverse] at this, fun h => (apply_turned h).1⟩

/-- an update taken back. -/
def Up.back (u : Up) : Up := ⟨u.name, u.new, u.old⟩
theorem apart_back {us : List Up} (h : Apart us) : Apart (us.map Up.back) := List.pairwise_map.2 h
theorem mayE_force {o : List Ob} {u : Up} (h : behindE o (if u.old = 0 then u.new else u.old) u.new = 0) : mayE o true u = 0 := by
  unfold mayE
  rw [if_neg (fun e => e h), if_pos (by simp)]
theorem mayE_new {o : List Ob} {force : Bool} {u : Up} (h : mayE o force u = 0) : IsC o u.new := by
  unfold mayE at h
  generalize (if u.old = 0 then u.new else u.old) = x at h
  split at h
  · rename_i c; exact absurd h c
  · rename_i c
    exact (behindE_iff.1 (Classical.byContradiction c)).2.2
/-- WHAT WAS DONE CAN BE TAKEN BACK BY FORCE. -/
theorem apply_back {l : List Rf} {o : List Ob} {us : List Up} {force : Bool} (h : applyE l o us force = 0) : applyE (runL l us) o (us.map Up.back) true = 0 ∧ runL (runL l us) (us.map Up.back) = l := by
  obtain ⟨h1, h2, h3, h4⟩ := applyE_iff.1 h
  obtain ⟨c1, c2, c3, c4⟩ := checkU_iff.1 h2
  have hs := refs_sort h1
  have hk := (refsE_iff.1 h1).1
  have hd := (runE_iff us (fun u hu => (c3 u hu).name) c4 hs).1 h3
  have c4' := apart_back c4
  have hl : runL (runL l us) (us.map Up.back) = l := by
    refine look_ext (runL_sort _ (runL_sort _ hs)) hs (runL_ids _ (runL_ids _ (refs_ids h1))) (refs_ids h1) fun nm => ?_
    rw [runL_look _ c4' (runL_sort _ hs), runL_look _ c4 hs]
    by_cases hx : ∃ u ∈ us, u.name = nm
    · obtain ⟨u, hu, rfl⟩ := hx
      rw [show newOf (us.map Up.back) u.name = some u.old from newOf_mem c4' (u := u.back) (List.mem_map_of_mem hu)]
      exact (hd u hu).1.symm
    · rw [newOf_none (us := us.map Up.back) (fun v hv e => by
        obtain ⟨u, hu, rfl⟩ := List.mem_map.1 hv
        exact hx ⟨u, hu, e⟩), newOf_none (fun u hu e => hx ⟨u, hu, e⟩)]
      rfl
  have hnm : ∀ v ∈ us.map Up.back, nameE v.name = 0 := fun v hv => by
    obtain ⟨u, hu, rfl⟩ := List.mem_map.1 hv
    exact (c3 u hu).name
  refine ⟨applyE_iff.2 ⟨h4, checkU_iff.2 ⟨by simpa using c1, by simpa using c2, fun v hv => ?_, c4'⟩, (runE_iff _ hnm c4' (runL_sort _ hs)).2 fun v hv => ?_, by rw [hl]; exact h1⟩, hl⟩
  · obtain ⟨u, hu, rfl⟩ := List.mem_map.1 hv
    have r := c3 u hu
    exact ⟨r.name, r.n0, r.n1, r.o0, r.o1, fun e => r.not ⟨e.2, e.1⟩⟩
  · obtain ⟨u, hu, rfl⟩ := List.mem_map.1 hv
    obtain ⟨d1, d2⟩ := hd u hu
    refine ⟨?_, fun hz => mayE_force ?_⟩
    · show lookI (runL l us) u.name = u.new
      rw [runL_look _ c4 hs, newOf_mem c4 hu]; rfl
    · have hz' : u.old ≠ 0 := hz
      have ho : IsC o u.old := by
        obtain ⟨r, hr, _, e⟩ := look_inv (l := l) (nm := u.name) (by rw [d1]; exact hz')
        rw [← d1, ← e]; exact refs_isC h1 hr
      show behindE o (if u.new = 0 then u.old else u.new) u.old = 0
      refine behindE_iff.2 ⟨hk, ?_, ho⟩
      split
      · exact ho
      · rename_i z; exact mayE_new (d2 z)
/-- each name is of New behind it. -/
theorem apply_new {l : List Rf} {o : List Ob} {us : List Up} {force : Bool} (h : applyE l o us force = 0) {u : Up} (hu : u ∈ us) : lookI (runL l us) u.name = u.new := by
  obtain ⟨h1, h2, h3, h4⟩ := applyE_iff.1 h
  obtain ⟨c1, c2, c3, c4⟩ := checkU_iff.1 h2
  rw [runL_look _ c4 (refs_sort h1), newOf_mem c4 hu]; rfl
/-- names that are not told of stay. -/
theorem apply_stay {l : List Rf} {o : List Ob} {us : List Up} {force : Bool} (h : applyE l o us force = 0) {r : Rf} (hr : r ∈ l) (hn : ∀ u ∈ us, u.name ≠ r.name) : lookI (runL l us) r.name = r.id := by
  obtain ⟨h1, h2, h3, h4⟩ := applyE_iff.1 h
  obtain ⟨c1, c2, c3, c4⟩ := checkU_iff.1 h2
  rw [runL_look _ c4 (refs_sort h1), newOf_none hn]
  exact look_mem (refs_sort h1) hr
/-- done twice it is refused. -/
theorem runE_again {o : List Ob} {force : Bool} (hk : checkS o = 0) : ∀ (us : List Up), (∀ u ∈ us, RightU u) → Apart us → ∀ {m : List Rf}, SortR m → (∀ u ∈ us, lookI m u.name = u.new) → (∀ u ∈ us, u.new ≠ 0 → IsC o u.new) → (∃ u ∈ us, u.old ≠ u.new) → runE o force m us = 4
  | [], _, _, _, _, _, _, h => by obtain ⟨u, hu, _⟩ := h; cases hu
  | u :: us, hr, hp, m, hs, hl, hc, hm => by
    obtain ⟨q1, q2⟩ := List.pairwise_cons.1 hp
    have ru := hr u (by simp)
    have lu := hl u (by simp)
    by_cases e : u.old = u.new
    · have hd : followE o force m u = 0 := by
        refine (followE_iff ru.name).2 ⟨by rw [lu, e], fun z => ?_⟩
        have hC := hc u (by simp) z
        have hb := behind_self (behindE_iff.2 ⟨hk, hC, hC⟩)
        unfold mayE
        rw [if_neg (fun q => z (e ▸ q)), e]
        rw [if_neg (fun q => q hb.1), if_pos (by rw [hb.2]; rfl)]
      rw [runE, if_neg (fun q => q hd)]
      refine runE_again hk us (fun v hv => hr v (by simp [hv])) q2 (change_sort hs _ _) (fun v hv => ?_) (fun v hv => hc v (by simp [hv])) ?_
      · rw [change_look hs, if_neg (q1 v hv).symm]; exact hl v (by simp [hv])
      · obtain ⟨v, hv, hne⟩ := hm
        rcases List.mem_cons.1 hv with rfl | hv
        · exact absurd e hne
        · exact ⟨v, hv, hne⟩
    · have hf : followE o force m u = 4 := by
        unfold followE
        rw [getI_look ru.name, lu, if_pos (fun q => e q.symm)]
      rw [runE, hf]
      rfl
theorem apply_again {l : List Rf} {o : List Ob} {us : List Up} {force : Bool} (h : applyE l o us force = 0) (hm : ∃ u ∈ us, u.old ≠ u.new) : applyE (runL l us) o us force = 4 := by
  obtain ⟨h1, h2, h3, h4⟩ := applyE_iff.1 h
  obtain ⟨c1, c2, c3, c4⟩ := checkU_iff.1 h2
  have hs := refs_sort h1
  have hd := (runE_iff us (fun u hu => (c3 u hu).name) c4 hs).1 h3
  have e := runE_again (force := force) (refsE_iff.1 h1).1 us c3 c4 (runL_sort _ hs) (fun u hu => apply_new h hu) (fun u hu z => mayE_new ((hd u hu).2 z)) hm
  unfold applyE
  rw [if_neg (fun q => q h4), if_neg (fun q => q h2), e]
  rfl
/-- rising by name. -/
def SortU (l : List Up) : Prop := l.Pairwise (fun x y => ltN x.name y.name)
theorem SortU.ext {l m : List Up} (h1 : SortU l) (h2 : SortU m) (hp : l.Perm m) : l = m :=
  hp.eq_of_pairwise (fun _ _ _ _ q1 q2 => absurd q2 q1.asymm) h1 h2
def insU (x : Up) : List Up → List Up
  | [] => [x]
  | y :: l => if Op.bytesLess y.name.toList x.name.toList then y :: insU x l else x :: y :: l
theorem insU_perm (x : Up) : ∀ l, (insU x l).Perm (x :: l)
  | [] => List.Perm.refl _
  | y :: l => by
    rw [insU]
    split
    · exact ((insU_perm x l).cons y).trans (List.Perm.swap x y l)
    · exact List.Perm.refl _
theorem insU_sort {x : Up} : ∀ {l : List Up}, SortU l → (∀ r ∈ l, r.name ≠ x.name) → SortU (insU x l)
  | [], _, _ => List.pairwise_singleton _ _
  | y :: l, h, hn => by
    obtain ⟨q1, q2⟩ := List.pairwise_cons.1 h
    rw [insU]
    split
    · rename_i c
      refine List.pairwise_cons.2 ⟨fun r hr => ?_, insU_sort q2 (fun r hr => hn r (List.mem_cons_of_mem _ hr))⟩
      rcases List.mem_cons.1 ((insU_perm x l).mem_iff.1 hr) with rfl | hr
      · exact c
      · exact q1 r hr
    · rename_i c
      have hxy : ltN x.name y.name := ltN.total c (hn y (List.mem_cons_self ..))
      refine List.pairwise_cons.2 ⟨fun r hr => ?_, h⟩
      rcases List.mem_cons.1 hr with rfl | hr
      · exact hxy
      · exact hxy.trans (q1 r hr)
/-- updates, rising by name. -/
def sortU : List Up → List Up
  | [] => []
  | u :: us => insU u (sortU us)
theorem sortU_perm : ∀ us : List Up, (sortU us).Perm us
  | [] => List.Perm.refl _
  | u :: us => (insU_perm u _).trans ((sortU_perm us).cons u)
theorem sortU_sort : ∀ {us : List Up}, Apart us → SortU (sortU us)
  | [], _ => List.Pairwise.nil
  | u :: us, h => by
    obtain ⟨q1, q2⟩ := List.pairwise_cons.1 h
    exact insU_sort (sortU_sort q2) (fun r hr => (q1 r ((sortU_perm us).mem_iff.1 hr)).symm)
theorem apart_perm {us d : List Up} (h : Apart us) (hp : d.Perm us) : Apart d := (hp.pairwise_iff (fun q => q.symm)).2 h
/-- there is one order in which names rise. -/
theorem sortU_one {us d : List Up} (h : Apart us) (hp : d.Perm us) (hs : d.Pairwise (fun x y => ¬ ltN y.name x.name)) : d = sortU us := by
  have ha := apart_perm h hp
  have : SortU d := by
    have := List.Pairwise.and hs ha
    exact this.imp fun q => Classical.byContradiction fun c => q.1 (ltN.total c q.2)
  exact this.ext (sortU_sort h) (hp.trans (sortU_perm us).symm)
theorem sortU_turned {us : List Up} (h : Apart us) : sortU us.reverse = sortU us :=
  sortU_one h ((sortU_perm _).trans (List.reverse_perm us)) ((sortU_sort h.reverse).imp fun q => q.asymm)
theorem insR_one {l d : List Rf} {x : Rf} (h : SortR l) (hn : ∀ r ∈ l, r.name ≠ x.name) (hp : d.Perm (l ++ [x])) (hs : d.Pairwise (fun x y => ¬ ltN y.name x.name)) : d = insR x l := by
  have h1 := insR_sort h hn
  have hpp : d.Perm (insR x l) := hp.trans (insR_perm x l).symm
  have ha : d.Pairwise (fun x y => x.name ≠ y.name) := (hpp.pairwise_iff (fun q => Ne.symm q)).2 (h1.imp fun q => q.neq)
  have : SortR d := (List.Pairwise.and hs ha).imp fun q => Classical.byContradiction fun c => q.1 (ltN.total c q.2)
  exact hpp.eq_of_pairwise (fun _ _ _ _ q1 q2 => absurd q2 q1.asymm) this h1
/-- what an update says. -/
def wordsOf (u : Up) : List (List UInt8) := [u.name.data.toList, Lib.decDigits u.old.toNat, Lib.decDigits u.new.toNat]
def sentOf (u : Up) : ByteArray := (⟨(Lib.join (wordsOf u) [32]).toArray⟩ : ByteArray) ++ (⟨#[59]⟩ : ByteArray)
def textFrom : ByteArray → List Up → ByteArray
  | t, [] => t
  | t, u :: us => textFrom (t ++ sentOf u) us
/-- what Text answers. -/
def textOf (us : List Up) : ByteArray := textFrom ⟨#[]⟩ (sortU us)
def textS (us : List Up) : ByteArray := if checkU us = 0 then textOf us else ⟨#[]⟩
theorem textS_turned (us : List Up) : textS us.reverse = textS us := by
  unfold textS
  by_cases h : checkU us = 0
  · rw [if_pos h, if_pos (checkU_reverse h)]
    unfold textOf
    rw [sortU_turned (checkU_iff.1 h).2.2.2]
  · rw [if_neg h, if_neg (fun q => h (checkU_reverse_iff.1 q))]
end

section
open Go.RowKit
set_option maxRecDepth 100000

abbrev Up.val (u : Up) : Value := .agg #[.string u.name, .int .i64 u.old, .int .i64 u.new]
def UpAt (w : World) (b o : Nat) (u : Up) : Prop := w.cell? ⟨b, o, none⟩ = some (.string u.name) ∧ w.cell? ⟨b, o + 1, none⟩ = some (.int .i64 u.old) ∧ w.cell? ⟨b, o + 2, none⟩ = some (.int .i64 u.new)
/-- a slice of updates reads as a list. -/
def HoldsU (w : World) (a : Option Addr) (l : List Up) : Prop :=
  ∀ i, i < l.length → ∃ b off, a = some ⟨b, off, none⟩ ∧ b < w.heap.size ∧ ∀ i (h : i < l.length), UpAt w b (off + i * 3) l[i]
theorem HoldsU.below {w w' : World} {a : Option Addr} {l : List Up} (h : HoldsU w a l) (hb : Below w.heap.size w w') : HoldsU w' a l := by
  intro i hi
  obtain ⟨b, off, e, hlt, hc⟩ := h i hi
  exact ⟨b, off, e, Nat.lt_of_lt_of_le hlt hb.size, fun j hj => ⟨(hb.cell (p := ⟨b, off + j * 3, none⟩) hlt).trans (hc j hj).1, (hb.cell (p := ⟨b, off + j * 3 + 1, none⟩) hlt).trans (hc j hj).2.1, (hb.cell (p := ⟨b, off + j * 3 + 2, none⟩) hlt).trans (hc j hj).2.2⟩⟩

theorem Tryz.info27 : (Tryz.prog.info? 27).map (fun i => (i.zero, i.size, i.bytes)) = some (some (.agg #[.string { data := #[] }, .int .i64 0, .int .i64 0]), 3, 32) := by kernel_rfl

def Up.cells (r : Up) : List Value := [.string r.name, .int .i64 r.old, .int .i64 r.new]
def rowU : List Up → List Value
  | [] => []
  | r :: rs => r.cells ++ rowU rs
theorem rowU_append (A B : List Up) : rowU (A ++ B) = rowU A ++ rowU B := by
  induction A with
  | nil => rfl
  | cons r A ih => simp [rowU, ih]
theorem rowU_length (A : List Up) : (rowU A).length = A.length * 3 := by
  induction A with
  | nil => rfl
  | cons r A ih => simp [rowU, ih, Up.cells]; omega
theorem rowU_one (A : List Up) : ∀ v ∈ rowU A, v.oneCell' = true := by
  induction A with
  | nil => intro v h; cases h
  | cons r A ih =>
    intro v h
    rcases List.mem_append.1 h with h | h
    · simp only [Up.cells, List.mem_cons, List.not_mem_nil, or_false] at h
      rcases h with rfl | rfl | rfl <;> rfl
    · exact ih v h
theorem rowU_get (A : List Up) (i j : Nat) (hi : i < A.length) (hj : j < 3) : (rowU A)[i * 3 + j]? = (A[i].cells)[j]? := by
  induction A generalizing i with
  | nil => simp at hi
  | cons r A ih =>
    cases i with
    | zero =>
      simp only [rowU, Nat.zero_mul, Nat.zero_add, List.getElem_cons_zero]
      exact List.getElem?_append_left (by simpa [Up.cells] using hj)
    | succ i =>
      have := ih i (by simpa using hi)
      rw [List.getElem_cons_succ, ← this]
      simp only [rowU]
      rw [List.getElem?_append_right (by simp [Up.cells]; omega)]
      congr 1
      simp [Up.cells]; omega
theorem ownU_reads {w : World} {base : Nat} {v : Value} {xs : List Up} (h : w.ownsRow base 27 3 v xs.length (rowU xs)) : ∃ a c, v = .slice a xs.length c ∧ HoldsU w a xs ∧ xs.length ≤ c := by
  rcases h.2 with ⟨rfl, e⟩ | ⟨g, cap, cur, rfl, h1, h2, h3, h4, h5, h6⟩
  · rw [e]
    exact ⟨none, 0, rfl, fun i hi => by omega, Nat.le_refl _⟩
  · refine ⟨_, _, rfl, fun i hi => ⟨g, 0, rfl, heap_lt h2, fun k hk => ?_⟩, h3⟩
    have hc : ∀ j, j < 3 → w.cell? ⟨g, 0 + k * 3 + j, none⟩ = (xs[k].cells)[j]? := fun j hj => by
      rw [Nat.zero_add, cell_of_row w g _ _ _ _ h2, ← rowU_get xs k j hk hj, ← h6, List.getElem?_take, if_pos (by omega)]
      simp
    exact ⟨by simpa [Up.cells] using hc 0 (by omega), by simpa [Up.cells] using hc 1 (by omega), by simpa [Up.cells] using hc 2 (by omega)⟩
theorem ownsRow_kept {w w' : World} {base : Nat} {e : TypeId} {size : Nat} {v : Value} {n : Nat} {xs : List Value} (h : w.ownsRow base e size v n xs) (hs : ∀ g, v.ownBlock = some g → w'.heap[g]? = w.heap[g]?) : w'.ownsRow base e size v n xs := by
  refine ⟨h.1, ?_⟩
  rcases h.2 with h | ⟨g, cap, cur, rfl, h1, h2, h3⟩
  · exact .inl h
  · exact .inr ⟨g, cap, cur, rfl, h1, (hs g rfl).trans h2, h3⟩

/-- the first that P says yes to, or -1. -/
def indexU (P : Up → Bool) (l : List Up) : Int := match l.findIdx? P with | some i => (i : Int) | none => -1
theorem indexU_hit {P : Up → Bool} {l : List Up} {k : Nat} (hk : k < l.length) (hno : ∀ j (h : j < l.length), j < k → P l[j] = false) (h : P l[k] = true) : indexU P l = k := by
  have : l.findIdx? P = some k := by
    rw [List.findIdx?_eq_some_iff_getElem]
    exact ⟨hk, h, fun j hj => by simpa using hno j (by omega) hj⟩
  simp [indexU, this]
theorem indexU_miss {P : Up → Bool} {l : List Up} (hno : ∀ j (h : j < l.length), P l[j] = false) : indexU P l = -1 := by
  have : l.findIdx? P = none := by
    rw [List.findIdx?_eq_none_iff]
    intro x hx
    obtain ⟨j, hj, rfl⟩ := List.getElem_of_mem hx
    exact hno j hj
  simp [indexU, this]
theorem indexU_any {P : Up → Bool} {l : List Up} : decide (0 ≤ indexU P l) = l.any P := by
  unfold indexU
  cases h : l.findIdx? P with
  | none =>
    rw [List.findIdx?_eq_none_iff] at h
    rw [show l.any P = false from List.any_eq_false.2 (fun x hx => by simp [h x hx])]
    simp
  | some i =>
    rw [List.findIdx?_eq_some_iff_getElem] at h
    obtain ⟨h1, h2, h3⟩ := h
    rw [show l.any P = true from List.any_eq_true.2 ⟨_, List.getElem_mem h1, h2⟩]
    simp

set_option maxHeartbeats 400000 in
theorem umay_any (n : Int) (w : World) : Calls Tryz.prog 82 #[.int .i64 n] w fun e w' => e = .returned (.bool (okId n)) ∧ w' = w := by
  have HR : Hid (∀ b : Bool, (b = true ↔ (0 ≤ n ∧ n ≤ 99)) → b = okId n) := fun b hb => by
    rw [Bool.eq_iff_iff, hb, okId_iff]
  go_enter Tryz.func82, Tryz.ntmps82
  go_wp2
  all_goals go_ret
  all_goals refine ⟨ret_bool (HR.out _ ?_), rfl⟩
  all_goals simp
  all_goals omega

set_option maxHeartbeats 400000 in
theorem join1_any (x : Up) (nm : ByteArray) (p : Nat) (w : World) (hp : w.cell? ⟨p, 0, none⟩ = some (.string nm)) (hlt : p < w.heap.size) :
    Calls Tryz.prog 84 #[x.val, .pointer (some ⟨p, 0, none⟩)] w fun e w' => e = .returned (.bool (sameU nm x)) ∧ Below w.heap.size w w' := by
  go_enter Tryz.func84, Tryz.ntmps84
  go_wp2
  go_ret
  exact ⟨rfl, below_alloc _ _⟩

set_option maxHeartbeats 800000 in
theorem indexJoin_any (a : Option Addr) (c : Nat) (l : List Up) (nm : ByteArray) (p : Nat) (w : World) (h : HoldsU w a l) (hl : l.length ≤ 9223372036854775807) (hp : w.cell? ⟨p, 0, none⟩ = some (.string nm)) (hlt : p < w.heap.size) :
    Calls Tryz.prog 125 #[.slice a l.length c, .func (.func 84) #[] #[.pointer (some ⟨p, 0, none⟩)]] w fun e w' => e = .returned (.int .i64 (indexU (sameU nm) l)) ∧ Below w.heap.size w w' := by
  go_enter Tryz.func125, Tryz.ntmps125
  go_wp2
  go_loopw [8] (fun i wr => ∃ k : Nat, i = .int .i64 k ∧ k ≤ l.length ∧ Below w.heap.size w wr ∧ Hid (∀ j (hj : j < l.length), j < k → (sameU nm) l[j] = false)) (fun i _ => l.length - (intOf i).toNat)
  case atStart => exact ⟨0, rfl, Nat.zero_le _, Below.refl _ _, fun j _ h => absurd h (Nat.not_lt_zero j)⟩
  case round =>
    obtain ⟨k, rfl, hk, hB, H⟩ := hrel
    by_cases hkl : k < l.length
    · obtain ⟨b, off, rfl, hb, hc⟩ := (h.below hB) k hkl
      obtain ⟨x0, x1, x2⟩ := hc k hkl
      have hpr : wr.cell? ⟨p, 0, none⟩ = some (.string nm) := (hB.cell (p := ⟨p, 0, none⟩) hlt).trans hp
      have hcl := join1_any l[k] nm p wr hpr (Nat.lt_of_lt_of_le hlt hB.size)
      clear hpr
      clear hc
      go_wp2_with fail
      refine hcl.mono ?_
      clear hcl
      rintro e w1 ⟨rfl, hb1⟩
      have hB1 := hB.trans (hb1.mono hB.size)
      clear hb1 x0 x1 x2
      by_cases hq : (sameU nm) l[k] = true
      · have HR : Hid (indexU (sameU nm) l = k) := indexU_hit hkl H.out hq
        rw [hq]
        clear hq
        go_wp2
        go_ret
        exact ⟨ret_int HR.out.symm, hB1⟩
      · have hq' : (sameU nm) l[k] = false := by simpa using hq
        have HN : Hid (∀ j (hj : j < l.length), j < k + 1 → (sameU nm) l[j] = false) := fun j hj hjk => by
          rcases Nat.lt_or_ge j k with h1 | h1
          · exact H.out j hj h1
          · have : j = k := by omega
            subst this
            exact hq'
        rw [hq']
        clear hq hq'
        go_wp2
        go_roundw
        case rel => exact ⟨k + 1, by go_num, by omega, hB1, HN⟩
        case measure => simp [intOf]; omega
    · have HR : Hid (indexU (sameU nm) l = -1) := indexU_miss (fun j hj => H.out j hj (by omega))
      go_wp2
      go_ret
      exact ⟨ret_int HR.out.symm, hB⟩

set_option maxHeartbeats 400000 in
theorem containsJoin_any (a : Option Addr) (c : Nat) (l : List Up) (nm : ByteArray) (p : Nat) (w : World) (h : HoldsU w a l) (hl : l.length ≤ 9223372036854775807) (hp : w.cell? ⟨p, 0, none⟩ = some (.string nm)) (hlt : p < w.heap.size) :
    Calls Tryz.prog 83 #[.slice a l.length c, .func (.func 84) #[] #[.pointer (some ⟨p, 0, none⟩)]] w fun e w' => e = .returned (.bool (l.any (sameU nm))) ∧ Below w.heap.size w w' := by
  have HR : Hid (decide (0 ≤ indexU (sameU nm) l) = l.any (sameU nm)) := indexU_any
  go_enter Tryz.func83, Tryz.ntmps83
  go_wp2_with fail
  refine (indexJoin_any a c l nm p w h hl hp hlt).mono ?_
  rintro e w1 ⟨rfl, hb⟩
  go_wp2
  go_ret
  exact ⟨ret_bool HR.out, hb⟩
end

section
open Go.RowKit
set_option maxRecDepth 100000

theorem Glob.belowN {w w' : World} {n : Nat} (h : Glob w) (hb : Below n w w') (h0 : 0 < n) : Glob w' := by
  obtain ⟨m, hm⟩ := h
  exact ⟨m, (hb.cell (p := ⟨0, 0, none⟩) h0).trans hm⟩
theorem c1_of {w : World} {q : Nat} {v : Value} {t : TypeId} (h : w.heap[q]? = some (.cells #[v] t)) : w.cell? ⟨q, 0, none⟩ = some v := by rw [cell_of_row w _ _ _ _ _ h]; rfl
theorem f_of {w : World} {q o : Nat} {cs : Array Value} {t : TypeId} (h : w.heap[q]? = some (.cells cs t)) : w.frozen? ⟨q, o, none⟩ = false := by simp [World.frozen?, h]
theorem c3_of {w : World} {q : Nat} {x0 x1 x2 : Value} {t : TypeId} (h : w.heap[q]? = some (.cells #[x0, x1, x2] t)) : w.cell? ⟨q, 0, none⟩ = some x0 ∧ w.cell? ⟨q, 1, none⟩ = some x1 ∧ w.cell? ⟨q, 2, none⟩ = some x2 := by
  refine ⟨?_, ?_, ?_⟩ <;> rw [cell_of_row w _ _ _ _ _ h] <;> rfl

/-- append of one update onto a row of one's own; the new row is the old one's block or a new block. -/
theorem app_up (w : World) (base : Nat) (ty : TypeId) (v : Value) (n : Nat) (xs : List Value) (hown : w.ownsRow base 27 3 v n xs) (vb : Nat) (ys : Array Value) (hv : w.heap[vb]? = some (.cells ys 27)) (hys : ys.size = 3)
    (h2 : ∀ v ∈ ys.toList, v.oneCell' = true) (hn : n ≤ 1000) (hbase : base ≤ w.heap.size) :
    ∃ v' w', (Builtin.append_ #[24, 24] ty #[v, .slice (some ⟨vb, 0, none⟩) 1 1]).run Tryz.prog w = .ok v' w' ∧ w'.ownsRow base 27 3 v' (n + 1) (xs ++ ys.toList) ∧ w.grownBy w' v.ownBlock := by
  obtain ⟨i0, hi0, hz0, hzs, hzb⟩ := info_parts Tryz.info27
  have hl : ys.toList.length = 1 * 3 := by rw [Array.length_toList, hys]
  have hnews := World.news_of_block hv
  obtain ⟨v', w', hr, q1, q2, _⟩ := run_append_own (P := Tryz.prog) w base 24 ty 27 i0 _ 3 32 Tryz.underlying24 hi0 hz0 hzs hzb rfl (by omega) v n xs hown ⟨vb, 0, none⟩ 1 1 ys.toList hl hnews h2 (by unfold maxLen; omega) (by omega) hbase
  exact ⟨v', w', hr, q1, q2⟩
theorem step_append_g {t : TypeId} {ops : Array Oper} {o : Oper} {a : Act} {w : World} {K : Act → World → Prop} {Q : Exit → Act → World → Prop} {E : Prop} (hgd : o.guard = none) (d s : Operand)
    (ho : o.op = .call { callee := .builtin .append, args := #[d, s], argTypes := #[t, t] }) (v u : Value) (hd : a.eval d = v) (hs : a.eval s = u) {v' : Value} {w' : World}
    (hr : (Builtin.append_ #[t, t] o.type #[v, u]).run Tryz.prog w = .ok v' w') (h : K (a.put o.dst v') w') : if Region.wanted o (yielded ops a.tmps) = true then Oper.wp Tryz.prog o a w K Q else E := by
  have hw : Region.wanted o (yielded ops a.tmps) = true := by simp [Region.wanted, hgd]
  rw [if_pos hw]
  unfold Oper.wp execOp
  simp only [ho, resolve, invoke, builtin, Sem.run_bind, Sem.run_pure, Result.andThen_ok, List.map_toArray, List.map_cons, List.map_nil, hd, hs, hr]
  exact h
theorem own_slice_g {w : World} {base : Nat} {e : TypeId} {size : Nat} {v : Value} {n : Nat} {xs : List Value} (h : w.ownsRow base e size v n xs) : ∃ g m c, v = .slice g m c := by
  rcases h.2 with ⟨e, _⟩ | ⟨g, cap, _, e, _⟩
  · exact ⟨_, _, _, e⟩
  · exact ⟨_, _, _, e⟩

/-- a queue at q: its row lies above q. -/
structure Queue (w : World) (q : Nat) (v : Value) (l : List Up) : Prop where
  blk : w.heap[q]? = some (.cells #[v] 94)
  own : w.ownsRow (q + 1) 27 3 v l.length (rowU l)
theorem Queue.lt {w : World} {q : Nat} {v : Value} {l : List Up} (h : Queue w q v l) : q < w.heap.size := heap_lt h.blk
theorem Queue.below {w w' : World} {q : Nat} {v : Value} {l : List Up} (h : Queue w q v l) (hb : Below w.heap.size w w') : Queue w' q v l :=
  ⟨(hb.block q h.lt).trans h.blk, ownsRow_kept h.own (fun g hg => hb.block g (h.own.lt g hg).2)⟩
theorem Queue.next {w w1 w2 : World} {q : Nat} {v v' : Value} {l l' : List Up} (h : Queue w q v l) (hb : Below w.heap.size w w1) (hg : w1.grownBy w2 v.ownBlock) (ho : w2.ownsRow (q + 1) 27 3 v' l'.length (rowU l')) :
    Queue (w2.setCell ⟨q, 0, none⟩ v') q v' l' ∧ Below q w (w2.setCell ⟨q, 0, none⟩ v') := by
  have h1 := h.below hb
  have hpl := h.lt
  have hpg : ∀ k, v.ownBlock = some k → q < k ∧ k < w.heap.size := fun k e => by have := h.own.lt k e; omega
  have hbp : w2.heap[q]? = some (.cells #[v] 94) := (hg.block q h1.lt (fun e => by have := hpg q e.symm; omega)).trans h1.blk
  have hoth : ∀ k, k ≠ q → (w2.setCell ⟨q, 0, none⟩ v').heap[k]? = w2.heap[k]? := fun k hk => heap_setCell_other w2 ⟨q, 0, none⟩ k v' hk
  have hsz : (w2.setCell ⟨q, 0, none⟩ v').heap.size = w2.heap.size := World.size_setCell _ _ _
  have hs1 := hb.size
  have hs2 := hg.size
  refine ⟨⟨?_, ?_⟩, ?_⟩
  · have := heap_setCell_same w2 q 0 #[v] 94 v' hbp
    simpa using this
  · exact ownsRow_kept ho (fun g e => hoth g (by have := (ho.lt g e).1; omega))
  · refine ⟨hg.os.trans hb.os, hg.tape.trans hb.tape, hg.output.trans hb.output, by omega, fun k hk => ?_⟩
    rw [hoth k (by omega), hg.block k (by omega) (fun e => by have := hpg k e.symm; omega)]
    exact hb.block k (by omega)

def joinL (l : List Up) (u : Up) : List Up := if joinE l u = 0 then l ++ [u] else l
theorem joinL_bad {l : List Up} {u : Up} {r : Int} (h : joinE l u = r) (hr : r ≠ 0) : joinL l u = l := by unfold joinL; rw [if_neg (fun e => hr (h.symm.trans e))]
theorem joinL_ok {l : List Up} {u : Up} (h : joinE l u = 0) : joinL l u = l ++ [u] := if_pos h

set_option maxHeartbeats 4000000 in
theorem join_any (q : Nat) (v : Value) (l : List Up) (u : Up) (w : World) (hg : Glob w) (Q : Queue w q v l) (hl : l.length ≤ 900) :
    Calls Tryz.prog 54 #[.pointer (some ⟨q, 0, none⟩), u.val] w fun e w' => ∃ v', e = .returned (.int .i64 (joinE l u)) ∧ Queue w' q v' (joinL l u) ∧ Below q w w' := by
  have hmf : ∀ (fn : Fn) (first cap : Array Value) (w : World), (Instr.makeFunc fn first cap).run Tryz.prog w = .ok (.func fn first cap) w := fun _ _ _ _ => rfl
  have hA := below_alloc w (.cells #[.string u.name, .int .i64 u.old, .int .i64 u.new] 27)
  have hbk := heap_alloc_new w (.cells #[.string u.name, .int .i64 u.old, .int .i64 u.new] 27)
  have HJ : Hid (joinE l u = if nameE u.name ≠ 0 then nameE u.name else if !(okId u.old) || !(okId u.new) then 3 else if u.old = 0 ∧ u.new = 0 then 1 else if l.any (sameU u.name) then 6 else 0) := rfl
  have hql := Q.lt
  go_enter Tryz.func54, Tryz.ntmps54
  go_wp2_with fail
  refine (name_any u.name _ (hg.below hA)).mono ?_
  rintro e w1 ⟨rfl, hb1⟩
  have hB1 := hA.trans (hb1.mono hA.size)
  have hbk1 := (hb1.block _ (heap_lt hbk)).trans hbk
  have Q1 := Q.below hB1
  have hBl : w.heap.size < w1.heap.size := heap_lt hbk1
  have hBn : v.ownBlock ≠ some w.heap.size := fun e => by have := (Q.own.lt _ e).2; omega
  obtain ⟨B, hBe⟩ : ∃ B, B = w.heap.size := ⟨_, rfl⟩
  have hqB : q < B := by omega
  rw [← hBe] at hbk1 hBl hBn
  rw [← hBe]
  have hBq := hB1.mono (Nat.le_of_lt hql)
  clear hA hbk hb1 hB1 hBe hg hql
  obtain ⟨y0, y1, y2⟩ := c3_of hbk1
  by_cases k1 : nameE u.name = 0
  case neg =>
    have HR : Hid (joinE l u = nameE u.name) := by unfold Hid; rw [HJ.out, if_pos k1]
    have HQ : Hid (joinL l u = l) := joinL_bad HR.out k1
    have z1 : (nameE u.name != 0) = true := by simpa using k1
    clear k1
    go_wp2
    go_ret
    exact ⟨v, ret_int HR.out.symm, by rw [HQ.out]; exact Q1, hBq⟩
  have HJ1 : Hid (joinE l u = if !(okId u.old) || !(okId u.new) then 3 else if u.old = 0 ∧ u.new = 0 then 1 else if l.any (sameU u.name) then 6 else 0) := by unfold Hid; rw [HJ.out, if_neg (fun e => e k1)]
  rw [k1]
  clear k1 HJ
  by_cases k2 : (!(okId u.old) || !(okId u.new)) = true
  · have HR : Hid (joinE l u = 3) := by unfold Hid; rw [HJ1.out, if_pos k2]
    have HQ : Hid (joinL l u = l) := joinL_bad HR.out (by decide)
    cases k3 : okId u.old with
    | false =>
      have hm := umay_any u.old w1
      rw [k3] at hm
      clear k2 k3
      go_wp2_with (go_at_call 82; refine hm.mono ?_; rintro e w2 ⟨rfl, rfl⟩)
      go_ret
      exact ⟨v, ret_int HR.out.symm, by rw [HQ.out]; exact Q1, hBq⟩
    | true =>
      have k4 : okId u.new = false := by rw [k3] at k2; simpa using k2
      have hm := umay_any u.old w1
      have hn := umay_any u.new w1
      rw [k3] at hm
      rw [k4] at hn
      clear k2 k3 k4
      go_wp2_with fail
      refine hm.mono ?_
      rintro e w2 ⟨rfl, rfl⟩
      go_wp2_with fail
      refine hn.mono ?_
      rintro e w2 ⟨rfl, rfl⟩
      go_wp2
      go_ret
      exact ⟨v, ret_int HR.out.symm, by rw [HQ.out]; exact Q1, hBq⟩
  have HJ2 : Hid (joinE l u = if u.old = 0 ∧ u.new = 0 then 1 else if l.any (sameU u.name) then 6 else 0) := by unfold Hid; rw [HJ1.out, if_neg k2]
  have hm := umay_any u.old w1
  have hn := umay_any u.new w1
  have k5 : okId u.old = true ∧ okId u.new = true := by
    cases h1 : okId u.old <;> cases h2 : okId u.new <;> simp [h1, h2] at k2 ⊢
  rw [k5.1] at hm
  rw [k5.2] at hn
  clear k2 k5 HJ1
  go_wp2_with fail
  refine hm.mono ?_
  clear hm
  rintro e w2 ⟨rfl, rfl⟩
  go_wp2_with fail
  refine hn.mono ?_
  clear hn
  rintro e w2 ⟨rfl, rfl⟩
  by_cases k6 : u.old = 0 ∧ u.new = 0
  · have HR : Hid (joinE l u = 1) := by unfold Hid; rw [HJ2.out, if_pos k6]
    have HQ : Hid (joinL l u = l) := joinL_bad HR.out (by decide)
    have z1 : (u.old == 0) = true := by simpa using k6.1
    have z2 : (u.new == 0) = true := by simpa using k6.2
    clear k6 HJ2
    go_wp2
    go_ret
    exact ⟨v, ret_int HR.out.symm, by rw [HQ.out]; exact Q1, hBq⟩
  have HJ3 : Hid (joinE l u = if l.any (sameU u.name) then 6 else 0) := by unfold Hid; rw [HJ2.out, if_neg k6]
  clear HJ2
  have hBown : v.ownBlock ≠ some B := fun e => hBn e
  clear hBn
  obtain ⟨a, c, hv, hh, hlc⟩ := ownU_reads Q1.own
  subst hv
  have c0 := c1_of Q1.blk
  have hcj := containsJoin_any a c l u.name B w2 hh (by omega) y0 hBl
  -- the two zeros are not both
  have go : ∀ (P : Prop), (∀ b1 b2 : Bool, (u.old == 0) = b1 → (u.new == 0) = b2 → (b1 && b2) = false → P) → P := fun P h => h _ _ rfl rfl (by
    cases h1 : (u.old == 0) with
    | false => rfl
    | true =>
      cases h2 : (u.new == 0) with
      | false => rfl
      | true => exact absurd ⟨by simpa using h1, by simpa using h2⟩ k6)
  apply go
  intro b1 b2 z1 z2 z3
  clear go k6
  have fin : ∀ (w3 : World), Below w2.heap.size w2 w3 → True := fun _ _ => trivial
  clear fin
  cases b1 with
  | false =>
    clear z3
    go_wp2_with fail
    refine hcj.mono ?_
    clear hcj
    rintro e w3 ⟨rfl, hb3⟩
    have Q3 := Q1.below hb3
    have hbk3 := (hb3.block _ hBl).trans hbk1
    have hBq3 := hBq.trans (hb3.mono (Nat.le_of_lt Q1.lt))
    have hBl3 := heap_lt hbk3
    clear hb3 hbk1 hBq hBl Q1 y0 y1 y2 hh c0 z1 z2
    cases hq : l.any (sameU u.name) with
    | true =>
      have HR : Hid (joinE l u = 6) := by unfold Hid; rw [HJ3.out, if_pos hq]
      have HQ : Hid (joinL l u = l) := joinL_bad HR.out (by decide)
      clear hq HJ3
      go_wp2
      go_ret
      exact ⟨_, ret_int HR.out.symm, by rw [HQ.out]; exact Q3, hBq3⟩
    | false =>
      have HR : Hid (joinE l u = 0) := by unfold Hid; rw [HJ3.out, if_neg (by rw [hq]; decide)]
      have HQ : Hid (joinL l u = l ++ [u]) := joinL_ok HR.out
      clear hq HJ3
      go_wp2_with fail
      have hdr := (Below.refl w3.heap.size w3).drew
      have QD := Q3.below hdr
      have hbD := (hdr.block _ hBl3).trans hbk3
      have hBqD := hBq3.trans (hdr.mono (Nat.le_of_lt Q3.lt))
      clear Q3 hbk3 hBq3 hdr hBl3
      refine wp_region_E (fun W => W.heap[q]? = some (.cells #[.slice a l.length c] 94) ∧ W.heap[B]? = some (.cells #[.string u.name, .int .i64 u.old, .int .i64 u.new] 27)) (fun k => k == 10) (by kernel_rfl) ⟨QD.blk, hbD⟩ (fun hS => ?_)
      generalize w3.drew = W0 at *
      refine wpAnyE.take (i := 0) (v := ?_) rfl (by kernel_rfl) (by kernel_rfl) (by kernel_rfl) (by kernel_rfl) (fun _ _ _ h => h) (Or.inl ⟨by rfl, ?_⟩) (by assumption) ?_
      rotate_left
      · intro w hSw; have z := c1_of hSw.1; obtain ⟨z0, z1, z2⟩ := c3_of hSw.2; clear hSw; go_simp; with_reducible rfl
      try simp only [Act.put, List.getElem_toArray, List.getElem_cons_zero, List.setIfInBounds_toArray, List.set_cons_zero, List.set_cons_succ]
      refine wpAnyE.take (i := 1) (v := ?_) rfl (by kernel_rfl) (by kernel_rfl) (by kernel_rfl) (by kernel_rfl) (fun _ _ _ h => h) (Or.inl ⟨by rfl, ?_⟩) (by assumption) ?_
      rotate_left
      · intro w hSw; have z := c1_of hSw.1; obtain ⟨z0, z1, z2⟩ := c3_of hSw.2; clear hSw; go_simp; with_reducible rfl
      try simp only [Act.put, List.getElem_toArray, List.getElem_cons_succ, List.getElem_cons_zero, List.setIfInBounds_toArray, List.set_cons_zero, List.set_cons_succ]
      refine wpAnyE.take (i := 2) (v := ?_) rfl (by kernel_rfl) (by kernel_rfl) (by kernel_rfl) (by kernel_rfl) (fun _ _ _ h => h) (Or.inl ⟨by rfl, ?_⟩) (by assumption) ?_
      rotate_left
      · intro w hSw; have z := c1_of hSw.1; obtain ⟨z0, z1, z2⟩ := c3_of hSw.2; clear hSw; go_simp; with_reducible rfl
      try simp only [Act.put, List.getElem_toArray, List.getElem_cons_succ, List.getElem_cons_zero, List.setIfInBounds_toArray, List.set_cons_zero, List.set_cons_succ]
      refine wpAnyE.take (i := 3) (v := ?_) rfl (by kernel_rfl) (by kernel_rfl) (by kernel_rfl) (by kernel_rfl) (fun _ _ _ h => h) (Or.inl ⟨by rfl, ?_⟩) (by assumption) ?_
      rotate_left
      · intro w hSw; have z := c1_of hSw.1; obtain ⟨z0, z1, z2⟩ := c3_of hSw.2; clear hSw; go_simp; with_reducible rfl
      try simp only [Act.put, List.getElem_toArray, List.getElem_cons_succ, List.getElem_cons_zero, List.setIfInBounds_toArray, List.set_cons_zero, List.set_cons_succ]
      refine wpAnyE.take (i := 4) (v := ?_) rfl (by kernel_rfl) (by kernel_rfl) (by kernel_rfl) (by kernel_rfl) (fun _ _ _ h => h) (Or.inl ⟨by rfl, ?_⟩) (by assumption) ?_
      rotate_left
      · intro w hSw; have z := c1_of hSw.1; obtain ⟨z0, z1, z2⟩ := c3_of hSw.2; clear hSw; go_simp; with_reducible rfl
      try simp only [Act.put, List.getElem_toArray, List.getElem_cons_succ, List.getElem_cons_zero, List.setIfInBounds_toArray, List.set_cons_zero, List.set_cons_succ]
      refine wpAnyE.take (i := 5) (v := ?_) rfl (by kernel_rfl) (by kernel_rfl) (by kernel_rfl) (by kernel_rfl) (fun _ _ _ h => h) (Or.inl ⟨by rfl, ?_⟩) (by assumption) ?_
      rotate_left
      · intro w hSw; have z := c1_of hSw.1; obtain ⟨z0, z1, z2⟩ := c3_of hSw.2; clear hSw; go_simp; with_reducible rfl
      try simp only [Act.put, List.getElem_toArray, List.getElem_cons_succ, List.getElem_cons_zero, List.setIfInBounds_toArray, List.set_cons_zero, List.set_cons_succ]
      refine wpAnyE.one (i := 6) (by kernel_rfl) rfl (fun K hK => ?_)
      go_simp
      obtain ⟨W2, hW2⟩ : ∃ W2, W2 = W0.alloc (.cells #[.string u.name, .int .i64 u.old, .int .i64 u.new] 27) := ⟨_, rfl⟩
      have hb2 : Below W0.heap.size W0 W2 := by rw [hW2]; exact below_alloc _ _
      have hv2 : W2.heap[W0.heap.size]? = some (.cells #[.string u.name, .int .i64 u.old, .int .i64 u.new] 27) := by rw [hW2]; exact heap_alloc_new W0 _
      rw [← hW2]
      clear hW2
      have hS2 : W2.heap[q]? = some (.cells #[.slice a l.length c] 94) ∧ W2.heap[B]? = some (.cells #[.string u.name, .int .i64 u.old, .int .i64 u.new] 27) := ⟨(hb2.block _ (heap_lt hS.1)).trans hS.1, (hb2.block _ (heap_lt hS.2)).trans hS.2⟩
      refine hK _ _ (fun _ => hS2) ?_
      clear hK K hS
      try simp only [Act.put, List.getElem_toArray, List.getElem_cons_succ, List.getElem_cons_zero, List.setIfInBounds_toArray, List.set_cons_zero, List.set_cons_succ]
      refine wpAnyE.one (i := 7) (by kernel_rfl) rfl (fun K hK => ?_)
      have Q2 := QD.below hb2
      obtain ⟨v', W3, hr3, ho3, hg3⟩ := app_up W2 (q + 1) 24 _ l.length (rowU l) Q2.own W0.heap.size _ hv2 rfl (by intro u hu; simp only [List.mem_cons, List.not_mem_nil, or_false] at hu; rcases hu with rfl | rfl | rfl <;> rfl) (by omega) (by have := Q2.lt; omega)
      obtain ⟨g', m', c', rfl⟩ := own_slice_g ho3
      refine step_append_g (by rfl) (.tmp 43) (.tmp 45) (by rfl) _ _ (by rfl) (by rfl) hr3 ?_
      have hne3 : some q ≠ (Value.slice a l.length c).ownBlock := fun e => by have := (Q2.own.lt _ e.symm).1; omega
      have hneB : some B ≠ (Value.slice a l.length c).ownBlock := fun e => hBown e.symm
      have hp3 := (hg3.block _ Q2.lt hne3).trans Q2.blk
      have hS3 : W3.heap[q]? = some (.cells #[.slice a l.length c] 94) ∧ W3.heap[B]? = some (.cells #[.string u.name, .int .i64 u.old, .int .i64 u.new] 27) := ⟨hp3, (hg3.block _ (heap_lt hS2.2) hneB).trans hS2.2⟩
      refine hK _ _ (fun _ => hS3) ?_
      clear hK K hS2 hr3
      try simp only [Act.put, List.getElem_toArray, List.getElem_cons_succ, List.getElem_cons_zero, List.setIfInBounds_toArray, List.set_cons_zero, List.set_cons_succ]
      refine wpAnyE.one (i := 8) (by kernel_rfl) rfl (fun K hK => ?_)
      go_simp
      refine hK _ _ (fun _ => hS3) ?_
      clear hK K
      try simp only [Act.put, List.getElem_toArray, List.getElem_cons_succ, List.getElem_cons_zero, List.setIfInBounds_toArray, List.set_cons_zero, List.set_cons_succ]
      refine wpAnyE.one (i := 9) (by kernel_rfl) rfl (fun K hK => ?_)
      go_simp
      refine hK _ _ (fun _ => hS3) ?_
      clear hK K
      try simp only [Act.put, List.getElem_toArray, List.getElem_cons_succ, List.getElem_cons_zero, List.setIfInBounds_toArray, List.set_cons_zero, List.set_cons_succ]
      have zf := f_of (o := 0) hS3.1
      have zc := c1_of hS3.1
      clear hS3
      refine wpAnyE.one (i := 10) (by kernel_rfl) rfl (fun K hK => ?_)
      go_simp
      refine hK _ _ (fun h => by cases h) ?_
      clear hK K
      try simp only [Act.put, List.getElem_toArray, List.getElem_cons_succ, List.getElem_cons_zero, List.setIfInBounds_toArray, List.set_cons_zero, List.set_cons_succ]
      refine wpAnyE.done (by kernel_rfl) ?_
      have NX := QD.next (l' := l ++ [u]) hb2 hg3 (by rw [List.length_append, rowU_append]; exact ho3)
      have hBB := hBqD.trans NX.2
      have HN : Hid (_ ∧ _) := ⟨NX.1, hBB⟩
      clear NX hBB hg3 ho3 hne3 hneB hp3 hv2 hb2 QD hbD hBqD zf zc Q2
      generalize W3.setCell ⟨q, 0, none⟩ (.slice g' m' c') = W4 at *
      go_wp2
      go_ret
      exact ⟨_, ret_int HR.out.symm, by rw [HQ.out]; exact HN.out.1, HN.out.2⟩
  | true =>
    have z4 : b2 = false := by simpa using z3
    subst z4
    clear z3
    go_wp2_with fail
    refine hcj.mono ?_
    clear hcj
    rintro e w3 ⟨rfl, hb3⟩
    have Q3 := Q1.below hb3
    have hbk3 := (hb3.block _ hBl).trans hbk1
    have hBq3 := hBq.trans (hb3.mono (Nat.le_of_lt Q1.lt))
    have hBl3 := heap_lt hbk3
    clear hb3 hbk1 hBq hBl Q1 y0 y1 y2 hh c0 z1 z2
    cases hq : l.any (sameU u.name) with
    | true =>
      have HR : Hid (joinE l u = 6) := by unfold Hid; rw [HJ3.out, if_pos hq]
      have HQ : Hid (joinL l u = l) := joinL_bad HR.out (by decide)
      clear hq HJ3
      go_wp2
      go_ret
      exact ⟨_, ret_int HR.out.symm, by rw [HQ.out]; exact Q3, hBq3⟩
    | false =>
      have HR : Hid (joinE l u = 0) := by unfold Hid; rw [HJ3.out, if_neg (by rw [hq]; decide)]
      have HQ : Hid (joinL l u = l ++ [u]) := joinL_ok HR.out
      clear hq HJ3
      go_wp2_with fail
      have hdr := (Below.refl w3.heap.size w3).drew
      have QD := Q3.below hdr
      have hbD := (hdr.block _ hBl3).trans hbk3
      have hBqD := hBq3.trans (hdr.mono (Nat.le_of_lt Q3.lt))
      clear Q3 hbk3 hBq3 hdr hBl3
      refine wp_region_E (fun W => W.heap[q]? = some (.cells #[.slice a l.length c] 94) ∧ W.heap[B]? = some (.cells #[.string u.name, .int .i64 u.old, .int .i64 u.new] 27)) (fun k => k == 10) (by kernel_rfl) ⟨QD.blk, hbD⟩ (fun hS => ?_)
      generalize w3.drew = W0 at *
      refine wpAnyE.take (i := 0) (v := ?_) rfl (by kernel_rfl) (by kernel_rfl) (by kernel_rfl) (by kernel_rfl) (fun _ _ _ h => h) (Or.inl ⟨by rfl, ?_⟩) (by assumption) ?_
      rotate_left
      · intro w hSw; have z := c1_of hSw.1; obtain ⟨z0, z1, z2⟩ := c3_of hSw.2; clear hSw; go_simp; with_reducible rfl
      try simp only [Act.put, List.getElem_toArray, List.getElem_cons_zero, List.setIfInBounds_toArray, List.set_cons_zero, List.set_cons_succ]
      refine wpAnyE.take (i := 1) (v := ?_) rfl (by kernel_rfl) (by kernel_rfl) (by kernel_rfl) (by kernel_rfl) (fun _ _ _ h => h) (Or.inl ⟨by rfl, ?_⟩) (by assumption) ?_
      rotate_left
      · intro w hSw; have z := c1_of hSw.1; obtain ⟨z0, z1, z2⟩ := c3_of hSw.2; clear hSw; go_simp; with_reducible rfl
      try simp only [Act.put, List.getElem_toArray, List.getElem_cons_succ, List.getElem_cons_zero, List.setIfInBounds_toArray, List.set_cons_zero, List.set_cons_succ]
      refine wpAnyE.take (i := 2) (v := ?_) rfl (by kernel_rfl) (by kernel_rfl) (by kernel_rfl) (by kernel_rfl) (fun _ _ _ h => h) (Or.inl ⟨by rfl, ?_⟩) (by assumption) ?_
      rotate_left
      · intro w hSw; have z := c1_of hSw.1; obtain ⟨z0, z1, z2⟩ := c3_of hSw.2; clear hSw; go_simp; with_reducible rfl
      try simp only [Act.put, List.getElem_toArray, List.getElem_cons_succ, List.getElem_cons_zero, List.setIfInBounds_toArray, List.set_cons_zero, List.set_cons_succ]
      refine wpAnyE.take (i := 3) (v := ?_) rfl (by kernel_rfl) (by kernel_rfl) (by kernel_rfl) (by kernel_rfl) (fun _ _ _ h => h) (Or.inl ⟨by rfl, ?_⟩) (by assumption) ?_
      rotate_left
      · intro w hSw; have z := c1_of hSw.1; obtain ⟨z0, z1, z2⟩ := c3_of hSw.2; clear hSw; go_simp; with_reducible rfl
      try simp only [Act.put, List.getElem_toArray, List.getElem_cons_succ, List.getElem_cons_zero, List.setIfInBounds_toArray, List.set_cons_zero, List.set_cons_succ]
      refine wpAnyE.take (i := 4) (v := ?_) rfl (by kernel_rfl) (by kernel_rfl) (by kernel_rfl) (by kernel_rfl) (fun _ _ _ h => h) (Or.inl ⟨by rfl, ?_⟩) (by assumption) ?_
      rotate_left
      · intro w hSw; have z := c1_of hSw.1; obtain ⟨z0, z1, z2⟩ := c3_of hSw.2; clear hSw; go_simp; with_reducible rfl
      try simp only [Act.put, List.getElem_toArray, List.getElem_cons_succ, List.getElem_cons_zero, List.setIfInBounds_toArray, List.set_cons_zero, List.set_cons_succ]
      refine wpAnyE.take (i := 5) (v := ?_) rfl (by kernel_rfl) (by kernel_rfl) (by kernel_rfl) (by kernel_rfl) (fun _ _ _ h => h) (Or.inl ⟨by rfl, ?_⟩) (by assumption) ?_
      rotate_left
      · intro w hSw; have z := c1_of hSw.1; obtain ⟨z0, z1, z2⟩ := c3_of hSw.2; clear hSw; go_simp; with_reducible rfl
      try simp only [Act.put, List.getElem_toArray, List.getElem_cons_succ, List.getElem_cons_zero, List.setIfInBounds_toArray, List.set_cons_zero, List.set_cons_succ]
      refine wpAnyE.one (i := 6) (by kernel_rfl) rfl (fun K hK => ?_)
      go_simp
      obtain ⟨W2, hW2⟩ : ∃ W2, W2 = W0.alloc (.cells #[.string u.name, .int .i64 u.old, .int .i64 u.new] 27) := ⟨_, rfl⟩
      have hb2 : Below W0.heap.size W0 W2 := by rw [hW2]; exact below_alloc _ _
      have hv2 : W2.heap[W0.heap.size]? = some (.cells #[.string u.name, .int .i64 u.old, .int .i64 u.new] 27) := by rw [hW2]; exact heap_alloc_new W0 _
      rw [← hW2]
      clear hW2
      have hS2 : W2.heap[q]? = some (.cells #[.slice a l.length c] 94) ∧ W2.heap[B]? = some (.cells #[.string u.name, .int .i64 u.old, .int .i64 u.new] 27) := ⟨(hb2.block _ (heap_lt hS.1)).trans hS.1, (hb2.block _ (heap_lt hS.2)).trans hS.2⟩
      refine hK _ _ (fun _ => hS2) ?_
      clear hK K hS
      try simp only [Act.put, List.getElem_toArray, List.getElem_cons_succ, List.getElem_cons_zero, List.setIfInBounds_toArray, List.set_cons_zero, List.set_cons_succ]
      refine wpAnyE.one (i := 7) (by kernel_rfl) rfl (fun K hK => ?_)
      have Q2 := QD.below hb2
      obtain ⟨v', W3, hr3, ho3, hg3⟩ := app_up W2 (q + 1) 24 _ l.length (rowU l) Q2.own W0.heap.size _ hv2 rfl (by intro u hu; simp only [List.mem_cons, List.not_mem_nil, or_false] at hu; rcases hu with rfl | rfl | rfl <;> rfl) (by omega) (by have := Q2.lt; omega)
      obtain ⟨g', m', c', rfl⟩ := own_slice_g ho3
      refine step_append_g (by rfl) (.tmp 43) (.tmp 45) (by rfl) _ _ (by rfl) (by rfl) hr3 ?_
      have hne3 : some q ≠ (Value.slice a l.length c).ownBlock := fun e => by have := (Q2.own.lt _ e.symm).1; omega
      have hneB : some B ≠ (Value.slice a l.length c).ownBlock := fun e => hBown e.symm
      have hp3 := (hg3.block _ Q2.lt hne3).trans Q2.blk
      have hS3 : W3.heap[q]? = some (.cells #[.slice a l.length c] 94) ∧ W3.heap[B]? = some (.cells #[.string u.name, .int .i64 u.old, .int .i64 u.new] 27) := ⟨hp3, (hg3.block _ (heap_lt hS2.2) hneB).trans hS2.2⟩
      refine hK _ _ (fun _ => hS3) ?_
      clear hK K hS2 hr3
      try simp only [Act.put, List.getElem_toArray, List.getElem_cons_succ, List.getElem_cons_zero, List.setIfInBounds_toArray, List.set_cons_zero, List.set_cons_succ]
      refine wpAnyE.one (i := 8) (by kernel_rfl) rfl (fun K hK => ?_)
      go_simp
      refine hK _ _ (fun _ => hS3) ?_
      clear hK K
      try simp only [Act.put, List.getElem_toArray, List.getElem_cons_succ, List.getElem_cons_zero, List.setIfInBounds_toArray, List.set_cons_zero, List.set_cons_succ]
      refine wpAnyE.one (i := 9) (by kernel_rfl) rfl (fun K hK => ?_)
      go_simp
      refine hK _ _ (fun _ => hS3) ?_
      clear hK K
      try simp only [Act.put, List.getElem_toArray, List.getElem_cons_succ, List.getElem_cons_zero, List.setIfInBounds_toArray, List.set_cons_zero, List.set_cons_succ]
      have zf := f_of (o := 0) hS3.1
      have zc := c1_of hS3.1
      clear hS3
      refine wpAnyE.one (i := 10) (by kernel_rfl) rfl (fun K hK => ?_)
      go_simp
      refine hK _ _ (fun h => by cases h) ?_
      clear hK K
      try simp only [Act.put, List.getElem_toArray, List.getElem_cons_succ, List.getElem_cons_zero, List.setIfInBounds_toArray, List.set_cons_zero, List.set_cons_succ]
      refine wpAnyE.done (by kernel_rfl) ?_
      have NX := QD.next (l' := l ++ [u]) hb2 hg3 (by rw [List.length_append, rowU_append]; exact ho3)
      have hBB := hBqD.trans NX.2
      have HN : Hid (_ ∧ _) := ⟨NX.1, hBB⟩
      clear NX hBB hg3 ho3 hne3 hneB hp3 hv2 hb2 QD hbD hBqD zf zc Q2
      generalize W3.setCell ⟨q, 0, none⟩ (.slice g' m' c') = W4 at *
      go_wp2
      go_ret
      exact ⟨_, ret_int HR.out.symm, by rw [HQ.out]; exact HN.out.1, HN.out.2⟩

theorem eu_bad {l m : List Up} {k : Nat} {r : Int} (hk : k < m.length) (H : r = eachU l (m.drop k)) (h : joinE l m[k] ≠ 0) : r = joinE l m[k] := by
  rw [H, List.drop_eq_getElem_cons hk, eachU, if_pos h]
theorem eu_next {l m : List Up} {k : Nat} {r : Int} (hk : k < m.length) (H : r = eachU l (m.drop k)) (h : joinE l m[k] = 0) : r = eachU (joinL l m[k]) (m.drop (k + 1)) := by
  rw [H, List.drop_eq_getElem_cons hk, eachU, if_neg (fun e => e h), joinL_ok h]
theorem eu_end {l m : List Up} {k : Nat} {r : Int} (hk : ¬ k < m.length) (H : r = eachU l (m.drop k)) : r = 0 := by
  rw [H, List.drop_of_length_le (by omega)]; rfl
theorem joinL_length (l : List Up) (u : Up) : (joinL l u).length ≤ l.length + 1 := by
  unfold joinL; split
  · simp
  · omega

set_option maxHeartbeats 800000 in
theorem each_join (a : Option Addr) (c : Nat) (us : List Up) (q : Nat) (v0 : Value) (w0 w : World) (hg : Glob w0) (h : HoldsU w0 a us) (hB : Below w0.heap.size w0 w) (hp : w0.heap.size ≤ q) (Q0 : Queue w q v0 []) (hl : us.length ≤ 900) :
    Calls Tryz.prog 28 #[.slice a us.length c, .func (.func 54) #[.pointer (some ⟨q, 0, none⟩)] #[]] w fun e w' => e = .returned (.int .i64 (eachU [] us)) ∧ Below w0.heap.size w0 w' := by
  have hl' : us.length ≤ 9223372036854775807 := by omega
  go_enter Tryz.func28, Tryz.ntmps28
  go_wp2
  go_loopw [10] (fun i wr => ∃ (k : Nat) (v : Value) (l : List Up), i = .int .i64 k ∧ k ≤ us.length ∧ l.length ≤ k ∧ Queue wr q v l ∧ Below w0.heap.size w0 wr ∧ Hid (eachU [] us = eachU l (us.drop k))) (fun i _ => us.length - (intOf i).toNat)
  case atStart => exact ⟨0, v0, [], rfl, Nat.zero_le _, Nat.le_refl _, Q0, hB, rfl⟩
  case round =>
    clear Q0
    obtain ⟨k, v, l, rfl, hk, hLk, QH, hBr, H⟩ := hrel
    by_cases hlt : k < us.length
    · obtain ⟨b, off, rfl, hb, hc⟩ := (h.below hBr) k hlt
      obtain ⟨y0, y1, y2⟩ := hc k hlt
      clear hc
      have hA := below_alloc wr (.cells #[.string us[k].name, .int .i64 us[k].old, .int .i64 us[k].new] 27)
      have hBA := hBr.trans (hA.mono hBr.size)
      go_wp2_with fail
      refine (join_any q v l us[k] _ (hg.below hBA) (QH.below hA) (by omega)).mono ?_
      rintro e w1 ⟨v', rfl, Q1, hb1⟩
      have hB1 := hBA.trans (hb1.mono hp)
      have HLl : Hid ((joinL l us[k]).length ≤ k + 1) := by have := joinL_length l us[k]; unfold Hid; omega
      clear hb1 hA y0 y1 y2 hBr QH hBA
      by_cases hz : joinE l us[k] = 0
      · have HN : Hid (eachU [] us = eachU (joinL l us[k]) (us.drop (k + 1))) := eu_next hlt H.out hz
        rw [hz]
        clear hz
        go_wp2
        go_roundw
        case rel => exact ⟨k + 1, v', _, by go_num, by omega, HLl.out, Q1, hB1, HN⟩
        case measure => simp [intOf]; omega
      · have HR : Hid (eachU [] us = joinE l us[k]) := eu_bad hlt H.out hz
        have hz' : (joinE l us[k] != 0) = true := by simpa using hz
        clear hz
        go_wp2
        go_ret
        exact ⟨ret_int HR.out.symm, hB1⟩
    · have HR : Hid (eachU [] us = 0) := eu_end hlt H.out
      go_wp2
      go_ret
      exact ⟨ret_int HR.out.symm, hBr⟩

set_option maxHeartbeats 800000 in
theorem ucheck_any (a : Option Addr) (c : Nat) (us : List Up) (w : World) (hg : Glob w) (h : HoldsU w a us) (hl : us.length ≤ 9223372036854775807) :
    Calls Tryz.prog 24 #[.slice a us.length c] w fun e w' => e = .returned (.int .i64 (checkU us)) ∧ Below w.heap.size w w' := by
  have hmf : ∀ (fn : Fn) (first cap : Array Value) (w : World), (Instr.makeFunc fn first cap).run Tryz.prog w = .ok (.func fn first cap) w := fun _ _ _ _ => rfl
  by_cases h0 : us.length = 0
  · have HR : Hid (5 = checkU us) := by unfold Hid checkU; rw [if_pos h0]
    rw [h0]
    clear h0 hl
    go_enter Tryz.func24, Tryz.ntmps24
    go_wp2
    go_ret
    exact ⟨ret_int HR.out, Below.refl _ _⟩
  by_cases h4 : 4 < us.length
  · have HR : Hid (2 = checkU us) := by unfold Hid checkU; rw [if_neg h0, if_pos h4]
    have z0 : ((us.length : Int) == 0) = false := by rw [beq_eq_false_iff_ne]; omega
    have z1 : (4 : Int) < (us.length : Int) := by omega
    clear h0 h4
    go_enter Tryz.func24, Tryz.ntmps24
    go_wp2
    go_ret
    exact ⟨ret_int HR.out, Below.refl _ _⟩
  have HR : Hid (eachU [] us = checkU us) := by unfold Hid checkU; rw [if_neg h0, if_neg h4]
  have z0 : ((us.length : Int) == 0) = false := by rw [beq_eq_false_iff_ne]; omega
  have z1 : ¬ (4 : Int) < (us.length : Int) := by omega
  have h9 : us.length ≤ 900 := by omega
  have hA := below_alloc w (.cells #[.slice none 0 0] 94)
  have Q0 : Queue (w.alloc (.cells #[.slice none 0 0] 94)) w.heap.size (.slice none 0 0) [] := ⟨heap_alloc_new w _, World.ownsRow_nil _ _ _ _⟩
  have hej := each_join a c us w.heap.size _ w _ hg h hA (Nat.le_refl _) Q0 h9
  clear h0 h4 Q0 h9 hA
  go_enter Tryz.func24, Tryz.ntmps24
  go_wp2_with fail
  refine hej.mono ?_
  clear hej
  rintro e w1 ⟨rfl, hb⟩
  go_wp2
  go_ret
  exact ⟨ret_int HR.out, hb⟩
end

section
open Go.RowKit
set_option maxRecDepth 100000

set_option maxHeartbeats 400000 in
theorem change1_any (x : Rf) (nm : ByteArray) (p : Nat) (w : World) (hp : w.cell? ⟨p, 0, none⟩ = some (.string nm)) (hlt : p < w.heap.size) :
    Calls Tryz.prog 89 #[x.val, .pointer (some ⟨p, 0, none⟩)] w fun e w' => e = .returned (.bool (sameN nm x)) ∧ Below w.heap.size w w' := by
  go_enter Tryz.func89, Tryz.ntmps89
  go_wp2
  go_ret
  exact ⟨rfl, below_alloc _ _⟩

set_option maxHeartbeats 800000 in
theorem indexChange_any (a : Option Addr) (c : Nat) (l : List Rf) (nm : ByteArray) (p : Nat) (w : World) (h : HoldsR w a l) (hl : l.length ≤ 9223372036854775807) (hp : w.cell? ⟨p, 0, none⟩ = some (.string nm)) (hlt : p < w.heap.size) :
    Calls Tryz.prog 55 #[.slice a l.length c, .func (.func 89) #[] #[.pointer (some ⟨p, 0, none⟩)]] w fun e w' => e = .returned (.int .i64 (indexR (sameN nm) l)) ∧ Below w.heap.size w w' := by
  go_enter Tryz.func55, Tryz.ntmps55
  go_wp2
  go_loopw [8] (fun i wr => ∃ k : Nat, i = .int .i64 k ∧ k ≤ l.length ∧ Below w.heap.size w wr ∧ Hid (∀ j (hj : j < l.length), j < k → (sameN nm) l[j] = false)) (fun i _ => l.length - (intOf i).toNat)
  case atStart => exact ⟨0, rfl, Nat.zero_le _, Below.refl _ _, fun j _ h => absurd h (Nat.not_lt_zero j)⟩
  case round =>
    obtain ⟨k, rfl, hk, hB, H⟩ := hrel
    by_cases hkl : k < l.length
    · obtain ⟨b, off, rfl, hb, hc⟩ := (h.below hB) k hkl
      obtain ⟨x0, x1⟩ := hc k hkl
      have hpr : wr.cell? ⟨p, 0, none⟩ = some (.string nm) := (hB.cell (p := ⟨p, 0, none⟩) hlt).trans hp
      have hcl := change1_any l[k] nm p wr hpr (Nat.lt_of_lt_of_le hlt hB.size)
      clear hpr
      clear hc
      go_wp2_with fail
      refine hcl.mono ?_
      clear hcl
      rintro e w1 ⟨rfl, hb1⟩
      have hB1 := hB.trans (hb1.mono hB.size)
      clear hb1 x0 x1
      by_cases hq : (sameN nm) l[k] = true
      · have HR : Hid (indexR (sameN nm) l = k) := indexR_hit hkl H.out hq
        rw [hq]
        clear hq
        go_wp2
        go_ret
        exact ⟨ret_int HR.out.symm, hB1⟩
      · have hq' : (sameN nm) l[k] = false := by simpa using hq
        have HN : Hid (∀ j (hj : j < l.length), j < k + 1 → (sameN nm) l[j] = false) := fun j hj hjk => by
          rcases Nat.lt_or_ge j k with h1 | h1
          · exact H.out j hj h1
          · have : j = k := by omega
            subst this
            exact hq'
        rw [hq']
        clear hq hq'
        go_wp2
        go_roundw
        case rel => exact ⟨k + 1, by go_num, by omega, hB1, HN⟩
        case measure => simp [intOf]; omega
    · have HR : Hid (indexR (sameN nm) l = -1) := indexR_miss (fun j hj => H.out j hj (by omega))
      go_wp2
      go_ret
      exact ⟨ret_int HR.out.symm, hB⟩


theorem rowR_take (A : List Rf) (i : Nat) (hi : i ≤ A.length) : (rowR A).take (i * 2) = rowR (A.take i) := by
  have h := rowR_append (A.take i) (A.drop i)
  rw [List.take_append_drop] at h
  rw [h, List.take_append_of_le_length (by rw [rowR_length, List.length_take]; omega), List.take_of_length_le (by rw [rowR_length, List.length_take]; omega)]
theorem setCells_rest : ∀ (zs : List Value) (o : Nat) (w : World) (g : Nat), (w.setCells g o zs).os = w.os ∧ (w.setCells g o zs).tape = w.tape ∧ (w.setCells g o zs).output = w.output ∧ (w.setCells g o zs).heap.size = w.heap.size ∧ ∀ k, k ≠ g → (w.setCells g o zs).heap[k]? = w.heap[k]?
  | [], _, _, _ => ⟨rfl, rfl, rfl, rfl, fun _ _ => rfl⟩
  | z :: zs, o, w, g => by
    obtain ⟨h1, h2, h3, h4, h5⟩ := setCells_rest zs (o + 1) (w.setCell ⟨g, o, none⟩ z) g
    rw [World.setCells]
    exact ⟨h1, h2, h3, h4.trans (World.size_setCell _ _ _), fun k hk => (h5 k hk).trans (heap_setCell_other w ⟨g, o, none⟩ k z hk)⟩
theorem setCells_row : ∀ (zs : List Value) (o : Nat) (w : World) (g : Nat) (cur : Array Value) (t : TypeId), w.heap[g]? = some (.cells cur t) → ∃ cur', (w.setCells g o zs).heap[g]? = some (.cells cur' t) ∧ cur'.size = cur.size ∧ ∀ k, k < o → cur'[k]? = cur[k]?
  | [], _, _, _, cur, _, h => ⟨cur, h, rfl, fun _ _ => rfl⟩
  | z :: zs, o, w, g, cur, t, h => by
    obtain ⟨cur', h1, h2, h3⟩ := setCells_row zs (o + 1) (w.setCell ⟨g, o, none⟩ z) g _ t (heap_setCell_same w g o cur t z h)
    refine ⟨cur', h1, by rw [h2]; simp, fun k hk => ?_⟩
    rw [h3 k (by omega), Array.getElem?_setIfInBounds_ne (by omega)]

theorem run_clear_refs (w : World) (g o n c : Nat) (hn : 0 < n) (cur : Array Value) (hg : w.heap[g]? = some (.cells cur 38)) (hs : o + n * 2 ≤ cur.size) :
    ∃ zs : List Value, ∀ ty, (Builtin.clear_ #[22] ty #[.slice (some ⟨g, o, none⟩) n c]).run Tryz.prog w = .ok (.tuple #[]) (w.setCells g o zs) := by
  obtain ⟨m, rfl⟩ : ∃ m, n = m + 1 := ⟨n - 1, by omega⟩
  refine ⟨(Builtin.zeroCells #[.string { data := #[] }, .int .i64 0] (m + 1)).toList, fun ty => ?_⟩
  have hlen : (Builtin.zeroCells #[Value.string { data := #[] }, .int .i64 0] (m + 1)).toList.length = (m + 1) * 2 := by simp [Builtin.zeroCells]
  have hst := run_storeCells_cells (P := Tryz.prog) g o (Builtin.zeroCells #[.string { data := #[] }, .int .i64 0] (m + 1)).toList 0 w
    (by intro j hj; rw [hlen] at hj; rw [cell_of_row w _ _ _ _ _ hg, Array.getElem?_eq_getElem (by omega)]; rfl) (by intro j hj; exact f_of hg)
    (by
      intro v hv
      simp only [Builtin.zeroCells, Array.toList_map, List.mem_map, Array.mem_toList_iff, Array.mem_range] at hv
      obtain ⟨i, _, rfl⟩ := hv
      have : i % 2 = 0 ∨ i % 2 = 1 := by omega
      rcases this with e | e
      · show ((#[Value.string { data := #[] }, .int .i64 0] : Array Value)[i % 2]!).oneCell' = true
        rw [e]; rfl
      · show ((#[Value.string { data := #[] }, .int .i64 0] : Array Value)[i % 2]!).oneCell' = true
        rw [e]; rfl)
  simp only [Nat.add_zero] at hst
  have hz : (Value.agg #[Value.string { data := #[] }, .int .i64 0]).cells = #[Value.string { data := #[] }, .int .i64 0] := rfl
  simp [Builtin.clear_, run_underlying Tryz.underlying22, Tryz.zeroValue38, hz, hst]

/-- rows of refs, some of them struck. -/
structure Del (w0 : World) (base g cap : Nat) (l : List Rf) (nm : ByteArray) (i j : Nat) (w : World) : Prop where
  row : ∃ cur, w.heap[g]? = some (.cells cur 38) ∧ cur.size = cap * 2 ∧ cur.toList.take (i * 2) = rowR (dropR (l.take j) nm) ∧ ∀ k (hk : k < l.length), j ≤ k → cur[k * 2]? = some (.string l[k].name) ∧ cur[k * 2 + 1]? = some (.int .i64 l[k].id)
  len : (dropR (l.take j) nm).length = i
  lt : i < j
  le : j ≤ l.length
  grown : w0.grownBy w (some g)
theorem Del.below {w0 w w' : World} {base g cap : Nat} {l : List Rf} {nm : ByteArray} {i j : Nat} (h : Del w0 base g cap l nm i j w) (hb : Below w.heap.size w w') : Del w0 base g cap l nm i j w' := by
  obtain ⟨cur, h1, h2, h3, h4⟩ := h.row
  have hs := h.grown.size
  exact ⟨⟨cur, (hb.block g (heap_lt h1)).trans h1, h2, h3, h4⟩, h.len, h.lt, h.le, ⟨hb.os.trans h.grown.os, hb.tape.trans h.grown.tape, hb.output.trans h.grown.output, Nat.le_trans hs hb.size, fun k hk hne => (hb.block k (by omega)).trans (h.grown.block k hk hne)⟩⟩
theorem Del.cells {w0 w : World} {base g cap : Nat} {l : List Rf} {nm : ByteArray} {i j : Nat} (h : Del w0 base g cap l nm i j w) {k : Nat} (hk : k < l.length) (hjk : j ≤ k) : w.cell? ⟨g, k * 2, none⟩ = some (.string l[k].name) ∧ w.cell? ⟨g, k * 2 + 1, none⟩ = some (.int .i64 l[k].id) := by
  obtain ⟨cur, h1, h2, h3, h4⟩ := h.row
  obtain ⟨c0, c1⟩ := h4 k hk hjk
  refine ⟨?_, ?_⟩ <;> rw [cell_of_row w _ _ _ _ _ h1]
  · exact c0
  · exact c1
theorem Del.room {w0 w : World} {base g cap : Nat} {l : List Rf} {nm : ByteArray} {i j : Nat} (h : Del w0 base g cap l nm i j w) (hc : l.length ≤ cap) : (∃ x, w.cell? ⟨g, i * 2, none⟩ = some x) ∧ (∃ x, w.cell? ⟨g, i * 2 + 1, none⟩ = some x) ∧ w.frozen? ⟨g, i * 2, none⟩ = false ∧ w.frozen? ⟨g, i * 2 + 1, none⟩ = false := by
  obtain ⟨cur, h1, h2, h3, h4⟩ := h.row
  have h5 := h.lt
  have h6 := h.le
  refine ⟨⟨cur[i * 2]'(by omega), ?_⟩, ⟨cur[i * 2 + 1]'(by omega), ?_⟩, f_of h1, f_of h1⟩
  · rw [cell_of_row w _ _ _ _ _ h1]; simp
  · rw [cell_of_row w _ _ _ _ _ h1]; simp
theorem dropR_take {l : List Rf} {nm : ByteArray} {j : Nat} (hj : j < l.length) : dropR (l.take (j + 1)) nm = dropR (l.take j) nm ++ (if sameN nm l[j] = true then [] else [l[j]]) := by
  unfold dropR
  rw [List.take_succ_eq_append_getElem hj, List.filter_append]
  congr 1
  cases h : sameN nm l[j] <;> simp [List.filter, h]
theorem Del.skip {w0 w : World} {base g cap : Nat} {l : List Rf} {nm : ByteArray} {i j : Nat} (h : Del w0 base g cap l nm i j w) (hj : j < l.length) (hs : sameN nm l[j] = true) : Del w0 base g cap l nm i (j + 1) w := by
  have e : dropR (l.take (j + 1)) nm = dropR (l.take j) nm := by rw [dropR_take hj, if_pos hs, List.append_nil]
  obtain ⟨cur, h1, h2, h3, h4⟩ := h.row
  have := h.lt
  exact ⟨⟨cur, h1, h2, by rw [e]; exact h3, fun k hk hjk => h4 k hk (by omega)⟩, by rw [e]; exact h.len, by omega, by omega, h.grown⟩
theorem Del.keep {w0 w : World} {base g cap : Nat} {l : List Rf} {nm : ByteArray} {i j : Nat} (h : Del w0 base g cap l nm i j w) (hj : j < l.length) (hc : l.length ≤ cap) (hs : sameN nm l[j] = false) :
    Del w0 base g cap l nm (i + 1) (j + 1) ((w.setCell ⟨g, i * 2, none⟩ (.string l[j].name)).setCell ⟨g, i * 2 + 1, none⟩ (.int .i64 l[j].id)) := by
  have e : dropR (l.take (j + 1)) nm = dropR (l.take j) nm ++ [l[j]] := by rw [dropR_take hj, if_neg (by rw [hs]; decide)]
  obtain ⟨cur, h1, h2, h3, h4⟩ := h.row
  have hij := h.lt
  have q1 := heap_setCell_same w g (i * 2) cur 38 (.string l[j].name) h1
  have q2 := heap_setCell_same _ g (i * 2 + 1) _ 38 (.int .i64 l[j].id) q1
  refine ⟨⟨_, q2, by simp [h2], ?_, fun k hk hjk => ?_⟩, by rw [e, List.length_append, h.len]; rfl, by omega, by omega, ?_⟩
  · rw [e, rowR_append, ← h3]
    have hL : cur.toList.length = cap * 2 := by rw [Array.length_toList, h2]
    simp only [Array.toList_setIfInBounds]
    apply List.ext_getElem?
    intro t
    rw [List.getElem?_take, List.getElem?_append]
    have hlen : (cur.toList.take (i * 2)).length = i * 2 := by rw [List.length_take, hL]; omega
    rw [hlen]
    by_cases c0 : t < i * 2
    · rw [if_pos (by omega), if_pos c0, List.getElem?_set_ne (by omega), List.getElem?_set_ne (by omega), List.getElem?_take, if_pos c0]
    · rw [if_neg c0]
      by_cases c1 : t < (i + 1) * 2
      · rw [if_pos c1]
        have : t = i * 2 ∨ t = i * 2 + 1 := by omega
        rcases this with rfl | rfl
        · rw [List.getElem?_set_ne (by omega), List.getElem?_set_self (by rw [hL]; omega)]
          simp [rowR, Rf.cells]
        · rw [List.getElem?_set_self (by rw [List.length_set, hL]; omega)]
          simp [rowR, Rf.cells]
      · rw [if_neg c1, List.getElem?_eq_none (by simp [rowR, Rf.cells]; omega)]
  · obtain ⟨c0, c1⟩ := h4 k hk (by omega)
    rw [Array.getElem?_setIfInBounds_ne (by omega), Array.getElem?_setIfInBounds_ne (by omega), Array.getElem?_setIfInBounds_ne (by omega), Array.getElem?_setIfInBounds_ne (by omega)]
    exact ⟨c0, c1⟩
  · have hg := h.grown
    refine ⟨hg.os, hg.tape, hg.output, by simpa using hg.size, fun k hk hne => ?_⟩
    have hkg : k ≠ g := fun e => hne (by rw [e])
    rw [heap_setCell_other _ ⟨g, i * 2 + 1, none⟩ k _ hkg, heap_setCell_other _ ⟨g, i * 2, none⟩ k _ hkg]
    exact hg.block k hk hne

theorem dropR_none {l : List Rf} {nm : ByteArray} (h : ∀ x ∈ l, sameN nm x = false) : dropR l nm = l := by
  unfold dropR
  rw [List.filter_eq_self]
  intro x hx
  rw [h x hx]; rfl
theorem dropR_first {l : List Rf} {nm : ByteArray} {i : Nat} (hi : i < l.length) (h1 : sameN nm l[i] = true) (h2 : ∀ j (hj : j < l.length), j < i → sameN nm l[j] = false) : dropR (l.take (i + 1)) nm = l.take i := by
  rw [dropR_take hi, if_pos h1, List.append_nil]
  refine dropR_none fun x hx => ?_
  obtain ⟨j, hj, rfl⟩ := List.getElem_of_mem hx
  rw [List.length_take] at hj
  rw [List.getElem_take]
  exact h2 j (by omega) (by omega)

def DelPost (base : Nat) (v : Value) (l : List Rf) (nm : ByteArray) (w : World) (e : Ending) (w' : World) : Prop :=
  ∃ v', e = .returned v' ∧ w'.ownsRow base 38 2 v' (dropR l nm).length (rowR (dropR l nm)) ∧ w.grownBy w' v.ownBlock ∧ v'.ownBlock = v.ownBlock

theorem below_grown {w w' : World} {row : Option Nat} (h : Below w.heap.size w w') : w.grownBy w' row := ⟨h.os, h.tape, h.output, h.size, fun k hk _ => h.block k hk⟩

set_option maxHeartbeats 4000000 in
theorem delete_any (base : Nat) (v : Value) (l : List Rf) (nm : ByteArray) (p : Nat) (w : World) (hown : w.ownsRow base 38 2 v l.length (rowR l)) (hp : w.cell? ⟨p, 0, none⟩ = some (.string nm)) (hlt : p < w.heap.size) (hne : v.ownBlock ≠ some p) (hl : l.length ≤ 900) :
    Calls Tryz.prog 88 #[v, .func (.func 89) #[] #[.pointer (some ⟨p, 0, none⟩)]] w (DelPost base v l nm w) := by
  obtain ⟨a, c, hv, hh⟩ := ownR_reads hown
  have HO : Hid (w.ownsRow base 38 2 v l.length (rowR l)) := hown
  clear hown
  have hix := indexChange_any a c l nm p w hh (by omega) hp hlt
  rcases indexR_cases (sameN nm) l with ⟨e1, hall⟩ | ⟨i0, e1, hi0, ht, hall⟩
  · have HD : Hid (dropR l nm = l) := dropR_none hall
    rw [e1] at hix
    subst hv
    clear hall e1 hh
    go_enter Tryz.func88, Tryz.ntmps88
    go_wp2_with fail
    refine hix.mono ?_
    clear hix
    rintro e w1 ⟨rfl, hb⟩
    have HF : Hid (DelPost base (.slice a l.length c) l nm w (.returned (.slice a l.length c)) w1) := ⟨_, rfl, by rw [HD.out]; exact ownsRow_kept HO.out (fun g hg => hb.block g (HO.out.lt g hg).2), below_grown hb, rfl⟩
    clear hb HO
    go_wp2
    go_ret
    exact HF.out
  rw [e1] at hix
  obtain ⟨g, cap, cur, hv2, q1, q2, q3, q4, q5, q6⟩ : ∃ g cap cur, v = .slice (some ⟨g, 0, none⟩) l.length cap ∧ base ≤ g ∧ w.heap[g]? = some (.cells cur 38 (0, 0)) ∧ l.length ≤ cap ∧ cap ≤ maxLen ∧ cur.size = cap * 2 ∧ cur.toList.take (l.length * 2) = rowR l := by
    rcases HO.out.2 with ⟨_, e⟩ | h
    · omega
    · exact h
  rw [hv2] at hv
  have hac : a = some ⟨g, 0, none⟩ ∧ cap = c := by cases hv; exact ⟨rfl, rfl⟩
  obtain ⟨rfl, rfl⟩ := hac
  clear hv
  subst hv2
  have hgp : g ≠ p := fun e => hne (by rw [e]; rfl)
  have hrow : ∀ k (hk : k < l.length), cur[k * 2]? = some (.string l[k].name) ∧ cur[k * 2 + 1]? = some (.int .i64 l[k].id) := fun k hk => by
    have hc : ∀ j, j < 2 → cur[k * 2 + j]? = (l[k].cells)[j]? := fun j hj => by
      rw [← rowR_get l k j hk hj, ← q6, List.getElem?_take, if_pos (by omega)]
      simp
    exact ⟨by simpa [Rf.cells] using hc 0 (by omega), by simpa [Rf.cells] using hc 1 (by omega)⟩
  have D0 : Del w base g cap l nm i0 (i0 + 1) w := by
    have e := dropR_first hi0 ht hall
    refine ⟨⟨cur, q2, q5, ?_, fun k hk _ => hrow k hk⟩, by rw [e, List.length_take]; omega, by omega, by omega, below_grown (Below.refl _ _)⟩
    rw [e, ← rowR_take l i0 (by omega), ← q6, List.take_take]
    congr 1; omega
  have HG : Hid (base ≤ g) := q1
  have hcap : (l.length : Int) ≤ (cap : Int) := by omega
  have hcapN : l.length ≤ cap := q3
  have HC : Hid (cap ≤ maxLen) := q4
  have hne1 : ((i0 : Int) == -1) = false := by rw [beq_eq_false_iff_ne]; omega
  have hl63 : (l.length : Int) ≤ 9223372036854775807 := by omega
  clear hrow q1 q2 q3 q4 q5 q6 hh e1 ht hall HO hne
  go_enter Tryz.func88, Tryz.ntmps88
  go_wp2_with fail
  refine hix.mono ?_
  clear hix
  rintro e w1 ⟨rfl, hb⟩
  have D1 := D0.below hb
  have hpb := (hb.cell (p := ⟨p, 0, none⟩) hlt).trans hp
  have hlt1 := Nat.lt_of_lt_of_le hlt hb.size
  clear D0 hb hp hlt
  go_wp2
  go_loopw [5, 6, 7] (fun s5 s6 _ wr => ∃ i j : Nat, s5 = .int .i64 i ∧ s6 = .int .i64 j ∧ Del w base g cap l nm i j wr ∧ wr.cell? ⟨p, 0, none⟩ = some (.string nm) ∧ p < wr.heap.size) (fun _ s6 _ _ => l.length - (intOf s6).toNat)
  case atStart => exact ⟨i0, i0 + 1, rfl, by go_num, D1, hpb, hlt1⟩
  case round =>
    clear D1 hpb hlt1 hne1 hi0
    obtain ⟨i, j, rfl, rfl, D, hpr, hpl⟩ := hrel
    have hij := D.lt
    have hjl := D.le
    by_cases hj : j < l.length
    · obtain ⟨x0, x1⟩ := D.cells hj (Nat.le_refl _)
      have hj' : (j : Int) < (l.length : Int) := by omega
      have hi' : (i : Int) < (l.length : Int) := by omega
      have hA := below_alloc wr (.cells #[.string l[j].name, .int .i64 l[j].id] 38)
      have hbk := heap_alloc_new wr (.cells #[.string l[j].name, .int .i64 l[j].id] 38)
      have DA := D.below hA
      have hcl := change1_any l[j] nm p (wr.alloc (.cells #[.string l[j].name, .int .i64 l[j].id] 38)) ((hA.cell (p := ⟨p, 0, none⟩) hpl).trans hpr) (Nat.lt_of_lt_of_le hpl hA.size)
      have hpA := (hA.cell (p := ⟨p, 0, none⟩) hpl).trans hpr
      have hpAl := Nat.lt_of_lt_of_le hpl hA.size
      clear hA D hpr
      go_wp2_with fail
      refine hcl.mono ?_
      clear hcl
      rintro e w3 ⟨rfl, hb3⟩
      have D3 := DA.below hb3
      have hbk3 := (hb3.block _ (heap_lt hbk)).trans hbk
      have hp3 := (hb3.cell (p := ⟨p, 0, none⟩) hpAl).trans hpA
      have hpl3 := Nat.lt_of_lt_of_le hpAl hb3.size
      clear DA hb3 hbk hpA hpAl x0 x1
      obtain ⟨B, hB⟩ : ∃ B, B = wr.heap.size := ⟨_, rfl⟩
      rw [← hB] at hbk3
      rw [← hB]
      clear hB hpl
      have y0 : w3.cell? ⟨B, 0, none⟩ = some (.string l[j].name) := by rw [cell_of_row w3 _ _ _ _ _ hbk3]; rfl
      have y1 : w3.cell? ⟨B, 1, none⟩ = some (.int .i64 l[j].id) := by rw [cell_of_row w3 _ _ _ _ _ hbk3]; rfl
      clear hbk3
      cases hs : sameN nm l[j] with
      | true =>
        have HD : Hid (Del w base g cap l nm i (j + 1) w3) := D3.skip hj hs
        clear hs D3 y0 y1
        go_wp2
        go_roundw
        case rel => exact ⟨i, j + 1, rfl, by go_num, HD.out, hp3, hpl3⟩
        case measure => simp [intOf]; omega
      | false =>
        have DK := D3.keep hj hcapN hs
        obtain ⟨⟨u0, r0⟩, ⟨u1, r1⟩, f0, f1⟩ := D3.room hcapN
        have HP : Hid (((w3.setCell ⟨g, i * 2, none⟩ (.string l[j].name)).setCell ⟨g, i * 2 + 1, none⟩ (.int .i64 l[j].id)).cell? ⟨p, 0, none⟩ = some (.string nm) ∧ p < ((w3.setCell ⟨g, i * 2, none⟩ (.string l[j].name)).setCell ⟨g, i * 2 + 1, none⟩ (.int .i64 l[j].id)).heap.size) := by
          refine ⟨?_, by simpa using hpl3⟩
          rw [sc_other (fun e => hgp (congrArg Addr.block e)), sc_other (fun e => hgp (congrArg Addr.block e))]
          exact hp3
        have HD : Hid (Del w base g cap l nm (i + 1) (j + 1) ((w3.setCell ⟨g, i * 2, none⟩ (.string l[j].name)).setCell ⟨g, i * 2 + 1, none⟩ (.int .i64 l[j].id))) := DK
        clear hs D3 DK hp3 hpl3
        go_wp2
        go_roundw
        case rel => exact ⟨i + 1, j + 1, by go_num, by go_num, HD.out, HP.out.1, HP.out.2⟩
        case measure => simp [intOf]; omega
    · obtain rfl : j = l.length := by omega
      obtain ⟨cur1, c1, c2, c3, -⟩ := D.row
      have hic : ¬ cap = i := by omega
      have hic' : (i : Int) ≤ (cap : Int) := by omega
      have hil : (i : Int) ≤ (l.length : Int) := by omega
      obtain ⟨zs, hcl⟩ := run_clear_refs wr g (i * 2) (l.length - i) (cap - i) (by omega) cur1 c1 (by omega)
      obtain ⟨cur2, d1, d2, d3⟩ := setCells_row zs (i * 2) wr g cur1 38 c1
      obtain ⟨s1, s2, s3, s4, s5⟩ := setCells_rest zs (i * 2) wr g
      have HF : Hid (DelPost base (.slice (some ⟨g, 0, none⟩) l.length cap) l nm w (.returned (.slice (some ⟨g, 0, none⟩) i cap)) (wr.setCells g (i * 2) zs)) := by
        have hd : dropR (l.take l.length) nm = dropR l nm := by rw [List.take_of_length_le (Nat.le_refl _)]
        have hlen := D.len
        rw [hd] at hlen c3
        refine ⟨_, rfl, ⟨by rw [rowR_length], .inr ⟨g, cap, cur2, by rw [hlen], HG.out, d1, by rw [hlen]; omega, HC.out, by rw [d2, c2], ?_⟩⟩, ?_, rfl⟩
        · rw [hlen, ← c3]
          apply List.ext_getElem?
          intro t
          rw [List.getElem?_take, List.getElem?_take]
          split
          · rename_i ht
            have := d3 t ht
            simpa using this
          · rfl
        · have hg := D.grown
          exact ⟨s1.trans hg.os, s2.trans hg.tape, s3.trans hg.output, by rw [s4]; exact hg.size, fun k hk hne => (s5 k (fun e => hne (by rw [e]; rfl))).trans (hg.block k hk hne)⟩
      clear cur2 d1 d2 d3 s1 s2 s3 s4 s5 c1 c2 c3 D hpr hpl
      go_wp2
      go_ret
      exact HF.out
end

section
open Go.RowKit
set_option maxRecDepth 100000

theorem compare_less : ∀ a b : List UInt8, decide (Lib.compareBytes a b < 0) = Op.bytesLess a b
  | [], [] => rfl
  | [], _ :: _ => rfl
  | _ :: _, [] => rfl
  | x :: a, y :: b => by
    rw [Lib.compareBytes, Op.bytesLess]
    by_cases h1 : x < y
    · rw [if_pos h1]; simp [h1]
    · rw [if_neg h1]
      by_cases h2 : y < x
      · rw [if_pos h2]
        have hne : (x == y) = false := by rw [beq_eq_false_iff_ne]; intro e; subst e; exact h1 h2
        simp [h1, hne]
      · rw [if_neg h2, compare_less a b]
        have : x = y := by
          rw [UInt8.not_lt] at h1 h2
          exact UInt8.le_antisymm h2 h1
        subst this
        simp
theorem less_ntrans {a b c : List UInt8} (h1 : Op.bytesLess a b = false) (h2 : Op.bytesLess b c = false) : Op.bytesLess a c = false := by
  cases q : Op.bytesLess a c with
  | false => rfl
  | true =>
    by_cases e : b = c
    · rw [e, q] at h1; cases h1
    · have h3 := less_total b c h2 e
      have := less_trans a c b q h3
      rw [this] at h1; cases h1
theorem wpList_append_g {t : TypeId} {ops : Array Oper} {rest : List Oper} {o : Oper} {a : Act} {w : World} {Q : Exit → Act → World → Prop} (hgd : o.guard = none) (d s : Operand)
    (ho : o.op = .call { callee := .builtin .append, args := #[d, s], argTypes := #[t, t] }) (v u : Value) (hd : a.eval d = v) (hs : a.eval s = u) {v' : Value} {w' : World}
    (hr : (Builtin.append_ #[t, t] o.type #[v, u]).run Tryz.prog w = .ok v' w') (h : wpList Tryz.prog ops Q rest (a.put o.dst v') w') : wpList Tryz.prog ops Q (o :: rest) a w := by
  refine wpList_plain hgd fun K hK => ?_
  unfold Oper.wp execOp
  simp only [ho, resolve, invoke, builtin, Sem.run_bind, Sem.run_pure, Result.andThen_ok, List.map_toArray, List.map_cons, List.map_nil, hd, hs, hr]
  exact hK _ _ h

/-- a row that was laid anew, in place. -/
theorem putRow_block (w : World) (n g : Nat) (F cur : Array Value) (t : TypeId) (os : Array Obj) (hg : w.heap[g]? = some (.cells cur t)) (hs : F.size ≤ cur.size) :
    ∃ cur', (Sort.grow (Sort.putRow id (Sort.ahead w n) g 0 F) os).heap[g]? = some (.cells cur' t) ∧ cur'.size = cur.size ∧ cur'.toList.take F.size = F.toList := by
  refine ⟨Sort.putCells id 0 F cur, ?_, by simp [Sort.putCells], ?_⟩
  · rw [Sort.heap_grow_old _ _ (by simpa using heap_lt hg)]
    show ((w.heap.modify g (Sort.onCells (Sort.putCells id 0 F))))[g]? = _
    rw [Array.getElem?_modify, if_pos rfl, hg]
    rfl
  · apply List.ext_getElem?
    intro k
    rw [List.getElem?_take]
    by_cases hk : k < F.size
    · rw [if_pos hk]
      simp only [Sort.putCells, Array.toList_mapIdx, List.getElem?_mapIdx]
      rw [List.getElem?_eq_getElem (by rw [Array.length_toList]; omega)]
      simp [hk]
    · rw [if_neg hk, List.getElem?_eq_none (by rw [Array.length_toList]; omega)]
theorem putRow_grown (w : World) (n g : Nat) (F : Array Value) (os : Array Obj) : w.grownBy (Sort.grow (Sort.putRow id (Sort.ahead w n) g 0 F) os) (some g) := by
  refine ⟨rfl, rfl, rfl, by simp, fun k hk hne => ?_⟩
  rw [Sort.heap_grow_old _ _ (by simpa using hk)]
  show ((w.heap.modify g (Sort.onCells (Sort.putCells id 0 F))))[k]? = _
  rw [Array.getElem?_modify, if_neg (fun e => hne (by rw [e]))]

theorem hlen_any (n : Nat) (W : World) (h : n ≤ 12) : Calls Tryz.prog 65 #[.int .u64 n] W fun e w' => (∃ l : Int, e = .returned (.int .i64 l)) ∧ w' = W :=
  (Tryz.bits_Len n W (by omega) (by omega)).mono fun _ _ ⟨he, hw⟩ => ⟨⟨_, he⟩, hw⟩
theorem perm_list {α : Type} [Inhabited α] {d d' : Array α} (h : Sort.PermIn 0 d.size d d') : d'.toList.Perm d.toList := by
  have h3 := h.2.2
  have e : ∀ x : Array α, x.size = d.size → (x.extract 0 d.size) = x := fun x hx => by rw [← hx]; simp
  rwa [e d' h.1, e d rfl] at h3

def cmpR (x y : Rf) : Int := Lib.compareBytes x.name.data.toList y.name.data.toList
theorem ltR (x y : Rf) : ltOf cmpR x y = Op.bytesLess x.name.toList y.name.toList := by
  unfold ltOf cmpR
  rw [compare_less, ByteArray.toList_eq, ByteArray.toList_eq]
theorem swoR : Sort.SWO (ltOf cmpR) where
  irrefl x := by rw [ltR]; exact less_irrefl _
  trans x y z h1 h2 := by rw [ltR] at *; exact less_trans _ _ _ h1 h2
  ntrans x y z h1 h2 := by rw [ltR] at *; exact less_ntrans h1 h2
theorem flatR [Inhabited Rf] (d : Array Rf) : (Sort.flatK Rf.cells 2 d).toList = rowR d.toList := by
  apply List.ext_getElem?
  intro t
  by_cases h : t < d.size * 2
  · have h1 := Sort.get_flatK Rf.cells 2 d t h
    have hk : t / 2 < d.toList.length := by rw [Array.length_toList]; omega
    have h2 := rowR_get d.toList (t / 2) (t % 2) hk (Nat.mod_lt _ (by decide))
    rw [show t / 2 * 2 + t % 2 = t by omega] at h2
    rw [h2, Array.getElem?_toList, Array.getElem?_eq_getElem (by rw [Sort.size_flatK]; exact h)]
    rw [getElem!_pos (Sort.flatK Rf.cells 2 d) t (by rw [Sort.size_flatK]; exact h)] at h1
    rw [h1]
    have hk' : t / 2 < d.size := by omega
    rw [getElem!_pos d (t / 2) hk']
    have hm : t % 2 < (Rf.cells d[t / 2]).length := Nat.mod_lt _ (by decide)
    rw [getElem!_pos (Rf.cells d[t / 2]) (t % 2) hm]
    have e : d.toList[t / 2] = d[t / 2] := Array.getElem_toList ..
    rw [e, List.getElem?_eq_getElem hm]
  · rw [List.getElem?_eq_none (by rw [Array.length_toList, Sort.size_flatK]; omega), List.getElem?_eq_none (by rw [rowR_length, Array.length_toList]; omega)]

set_option maxHeartbeats 1000000 in
theorem closureR (x y : Rf) (W : World) : Calls Tryz.prog 91 #[x.val, y.val] W fun e w' => e = .returned (.int .i64 (cmpR x y)) ∧ ∃ q os', w' = Sort.grow (W.drewN q) os' := by
  have hcon := fun W' => Tryz.strings_Compare x.name y.name W'
  unfold cmpR
  generalize Lib.compareBytes x.name.data.toList y.name.data.toList = r at hcon ⊢
  go_enter Tryz.func91, Tryz.ntmps91
  go_wp2_with (go_at_call 33; refine (hcon _).mono ?_; rintro e w' ⟨rfl, rfl⟩)
  go_ret
  exact ⟨rfl, 0, _, by rw [Sort.alloc_eq_grow, Sort.alloc_eq_grow, Sort.grow_grow]; rfl⟩

theorem sortR_any (base g cap : Nat) (l : List Rf) (w : World) (hown : w.ownsRow base 38 2 (.slice (some ⟨g, 0, none⟩) l.length cap) l.length (rowR l)) (h12 : l.length ≤ 12) :
    Calls Tryz.prog 90 #[.slice (some ⟨g, 0, none⟩) l.length cap, .func (.func 91) #[] #[]] w fun e w' => e = .returned (.tuple #[]) ∧ ∃ d : List Rf, d.Perm l ∧ d.Pairwise (fun x y => ¬ ltN y.name x.name) ∧
      w'.ownsRow base 38 2 (.slice (some ⟨g, 0, none⟩) l.length cap) l.length (rowR d) ∧ w.grownBy w' (some g) := by
  have : Inhabited Rf := ⟨⟨{ data := #[] }, 0⟩⟩
  obtain ⟨cur, q1, q2, q3, q4, q5, q6⟩ : ∃ cur, base ≤ g ∧ w.heap[g]? = some (.cells cur 38 (0, 0)) ∧ l.length ≤ cap ∧ cap ≤ maxLen ∧ cur.size = cap * 2 ∧ cur.toList.take (l.length * 2) = rowR l := by
    rcases hown.2 with ⟨e, _⟩ | ⟨g', cap', cur, e, h⟩
    · cases e
    · cases e; exact ⟨cur, h⟩
  have eg : ∀ args w, (callFunc 91 args).run Tryz.prog w = .ok (.enter 91 args) w := enters_of Tryz.func91 (by kernel_rfl) rfl
  have hH : Sort.HoldsK Rf.cells 2 w g 0 l.toArray := by
    intro j hj
    rw [Sort.size_flatK] at hj
    have hj' : j < l.length * 2 := by simpa using hj
    refine ⟨?_, f_of q2⟩
    rw [cell_of_row w _ _ _ _ _ q2, Nat.zero_add]
    have h1 : (Sort.flatK Rf.cells 2 l.toArray).toList = rowR l := flatR l.toArray
    have h2 : cur[j]? = (rowR l)[j]? := by rw [← q6, List.getElem?_take, if_pos hj']; simp
    rw [h2, ← h1, Array.getElem?_toList, Array.getElem?_eq_getElem (by rw [Sort.size_flatK]; exact hj), getElem!_pos _ j (by rw [Sort.size_flatK]; exact hj)]
    rfl
  have hcon := AnyQ.slices_SortFunc_small_sorted Tryz.sortR 2 Tryz.isAgg38 Tryz.sizeOf38 Rf.cells (fun _ => rfl) (fun x v hv => by
      simp only [Rf.cells, List.mem_cons, List.not_mem_nil, or_false] at hv
      rcases hv with rfl | rfl <;> rfl) cmpR 91 #[] swoR g 0 cap l.toArray w eg (fun _ _ _ _ x y => closureR x y _) hH (heap_lt q2) (by simpa using h12) hlen_any
  have hcon' : Calls Tryz.prog 90 #[.slice (some ⟨g, 0, none⟩) l.length cap, .func (.func 91) #[] #[]] w _ := hcon
  refine hcon'.mono ?_
  rintro e w' ⟨he, d', n, os, hp, hs, rfl⟩
  have hpl := perm_list (d := l.toArray) hp
  have hdl : d'.size = l.length := by simpa using hp.1
  obtain ⟨cur', r1, r2, r3⟩ := putRow_block w n g (Sort.flatK Rf.cells 2 d') cur 38 os q2 (by rw [Sort.size_flatK, hdl, q5]; exact Nat.mul_le_mul_right _ q3)
  refine ⟨he, d'.toList, by simpa using hpl, ?_, ⟨by rw [rowR_length, Array.length_toList, hdl], .inr ⟨g, cap, cur', rfl, q1, r1, q3, q4, by rw [r2, q5], ?_⟩⟩, putRow_grown w n g _ os⟩
  · rw [List.pairwise_iff_getElem]
    intro i j hi hj hij
    rw [Array.length_toList] at hi hj
    have := hs i j (Nat.zero_le _) hij (by simpa [← hdl] using hj)
    rw [ltR, getElem!_pos d' i hi, getElem!_pos d' j hj] at this
    intro q
    rw [Array.getElem_toList, Array.getElem_toList] at q
    unfold ltN at q
    rw [this] at q
    cases q
  · rw [← flatR, ← r3, Sort.size_flatK, hdl]

theorem holdR_row' {w : World} {x : Addr} {m : List Rf} (h : ∀ i, i < m.length → ∃ b off, x = ⟨b, off, none⟩ ∧ ∀ k (hk : k < m.length), RfAt w b (off + k * 2) m[k]) : ∀ j u, (rowR m)[j]? = some u → w.cell? (x.add j) = some u := by
  intro j u hj
  have hlt : j < m.length * 2 := by
    rcases Nat.lt_or_ge j (m.length * 2) with q | q
    · exact q
    · rw [List.getElem?_eq_none (by rw [rowR_length]; exact q)] at hj; cases hj
  obtain ⟨b, off, rfl, hc⟩ := h (j / 2) (by omega)
  have hadd : (⟨b, off, none⟩ : Addr).add j = ⟨b, off + j, none⟩ := by unfold Addr.add; split <;> simp_all
  rw [hadd]
  have hk : j / 2 < m.length := by omega
  have hr := rowR_get m (j / 2) (j % 2) hk (Nat.mod_lt _ (by decide))
  rw [show j / 2 * 2 + j % 2 = j by omega, hj] at hr
  obtain ⟨c0, c1⟩ := hc (j / 2) hk
  rcases Nat.mod_two_eq_zero_or_one j with e | e
  · rw [e] at hr
    rw [show off + j = off + j / 2 * 2 by omega, c0]
    simpa [Rf.cells] using hr.symm
  · rw [e] at hr
    rw [show off + j = off + j / 2 * 2 + 1 by omega, c1]
    simpa [Rf.cells] using hr.symm

set_option maxHeartbeats 1000000 in
theorem cloneR_any (a : Option Addr) (c : Nat) (l : List Rf) (w : World) (h : HoldsR w a l) (hl : l.length ≤ 900) (ha : a = none → l = []) :
    Calls Tryz.prog 61 #[.slice a l.length c] w fun e w' => ∃ v', e = .returned v' ∧ w'.ownsRow w.heap.size 38 2 v' l.length (rowR l) ∧ Below w.heap.size w w' := by
  have q22 : ∀ (w : World) (a : Option Addr) (n c n' c' : Nat), (binOp .eql 22 (.slice a n c) (.slice none n' c')).run Tryz.prog w = .ok (.bool a.isNone) w := fun w a n c n' c' => Lib.run_eql_slice_nil w _ _ a n c n' c' Tryz.underlying22
  cases a with
  | none =>
    have e := ha rfl
    subst e
    have HO : Hid (w.ownsRow w.heap.size 38 2 (.slice none 0 0) ([] : List Rf).length (rowR [])) := World.ownsRow_nil _ _ _ _
    clear h ha hl
    go_enter Tryz.func61, Tryz.ntmps61
    go_wp2
    go_ret
    exact ⟨_, rfl, HO.out, Below.refl _ _⟩
  | some x =>
    have hb0 := below_alloc w (.cells #[] 38)
    have hh : ∀ i, i < l.length → ∃ b off, x = ⟨b, off, none⟩ ∧ ∀ k (hk : k < l.length), RfAt (w.alloc (.cells #[] 38)) b (off + k * 2) l[k] := fun i hi => by
      obtain ⟨b, off, e, _, hc⟩ := (h.below hb0) i hi
      exact ⟨b, off, Option.some.inj e, hc⟩
    obtain ⟨i0, hi0, hz0, hzs, hzb⟩ := info_parts Tryz.info38
    have o0 : (w.alloc (.cells #[] 38)).ownsRow w.heap.size 38 2 (.slice (some ⟨w.heap.size, 0, none⟩) 0 0) 0 [] := World.ownsRow_made w #[] 0 (Nat.le_refl _) (by unfold maxLen; omega) rfl
    obtain ⟨v', w', hr, p1, p2, _⟩ := run_append_own (P := Tryz.prog) _ w.heap.size 22 22 38 i0 _ 2 24 Tryz.underlying22 hi0 hz0 hzs hzb rfl (by omega) _ 0 [] o0 x l.length c (rowR l) (rowR_length l) (holdR_row' hh) (rowR_one l) (by unfold maxLen; omega) (by omega) hb0.size
    have HF : Hid (w'.ownsRow w.heap.size 38 2 v' l.length (rowR l) ∧ Below w.heap.size w w') := by
      refine ⟨by simpa using p1, ?_⟩
      exact hb0.trans ⟨p2.os, p2.tape, p2.output, p2.size, fun k hk => p2.block k (by have := hb0.size; omega) (fun e => by simp [Value.ownBlock] at e; omega)⟩
    obtain ⟨g', m', c', rfl⟩ := own_slice_g p1
    clear p1 p2 hh h o0 ha hb0
    go_enter Tryz.func61, Tryz.ntmps61
    go_wp2_with (at_builtin; refine wpList_append_g (by rfl) (.tmp 5) (.tmp 6) (by rfl) _ _ (by rfl) (by rfl) hr ?_)
    go_ret
    exact ⟨_, rfl, HF.out.1, HF.out.2⟩

def cmpU (x y : Up) : Int := Lib.compareBytes x.name.data.toList y.name.data.toList
theorem ltU (x y : Up) : ltOf cmpU x y = Op.bytesLess x.name.toList y.name.toList := by
  unfold ltOf cmpU
  rw [compare_less, ByteArray.toList_eq, ByteArray.toList_eq]
theorem swoU : Sort.SWO (ltOf cmpU) where
  irrefl x := by rw [ltU]; exact less_irrefl _
  trans x y z h1 h2 := by rw [ltU] at *; exact less_trans _ _ _ h1 h2
  ntrans x y z h1 h2 := by rw [ltU] at *; exact less_ntrans h1 h2
theorem flatU [Inhabited Up] (d : Array Up) : (Sort.flatK Up.cells 3 d).toList = rowU d.toList := by
  apply List.ext_getElem?
  intro t
  by_cases h : t < d.size * 3
  · have h1 := Sort.get_flatK Up.cells 3 d t h
    have hk : t / 3 < d.toList.length := by rw [Array.length_toList]; omega
    have h2 := rowU_get d.toList (t / 3) (t % 3) hk (Nat.mod_lt _ (by decide))
    rw [show t / 3 * 3 + t % 3 = t by omega] at h2
    rw [h2, Array.getElem?_toList, Array.getElem?_eq_getElem (by rw [Sort.size_flatK]; exact h)]
    rw [getElem!_pos (Sort.flatK Up.cells 3 d) t (by rw [Sort.size_flatK]; exact h)] at h1
    rw [h1]
    have hk' : t / 3 < d.size := by omega
    rw [getElem!_pos d (t / 3) hk']
    have hm : t % 3 < (Up.cells d[t / 3]).length := Nat.mod_lt _ (by decide)
    rw [getElem!_pos (Up.cells d[t / 3]) (t % 3) hm]
    have e : d.toList[t / 3] = d[t / 3] := Array.getElem_toList ..
    rw [e, List.getElem?_eq_getElem hm]
  · rw [List.getElem?_eq_none (by rw [Array.length_toList, Sort.size_flatK]; omega), List.getElem?_eq_none (by rw [rowU_length, Array.length_toList]; omega)]

set_option maxHeartbeats 1000000 in
theorem closureU (x y : Up) (W : World) : Calls Tryz.prog 32 #[x.val, y.val] W fun e w' => e = .returned (.int .i64 (cmpU x y)) ∧ ∃ q os', w' = Sort.grow (W.drewN q) os' := by
  have hcon := fun W' => Tryz.strings_Compare x.name y.name W'
  unfold cmpU
  generalize Lib.compareBytes x.name.data.toList y.name.data.toList = r at hcon ⊢
  go_enter Tryz.func32, Tryz.ntmps32
  go_wp2_with (go_at_call 33; refine (hcon _).mono ?_; rintro e w' ⟨rfl, rfl⟩)
  go_ret
  exact ⟨rfl, 0, _, by rw [Sort.alloc_eq_grow, Sort.alloc_eq_grow, Sort.grow_grow]; rfl⟩

theorem sortU_any (base g cap : Nat) (l : List Up) (w : World) (hown : w.ownsRow base 27 3 (.slice (some ⟨g, 0, none⟩) l.length cap) l.length (rowU l)) (h12 : l.length ≤ 12) :
    Calls Tryz.prog 31 #[.slice (some ⟨g, 0, none⟩) l.length cap, .func (.func 32) #[] #[]] w fun e w' => e = .returned (.tuple #[]) ∧ ∃ d : List Up, d.Perm l ∧ d.Pairwise (fun x y => ¬ ltN y.name x.name) ∧
      w'.ownsRow base 27 3 (.slice (some ⟨g, 0, none⟩) l.length cap) l.length (rowU d) ∧ w.grownBy w' (some g) := by
  have : Inhabited Up := ⟨⟨{ data := #[] }, 0, 0⟩⟩
  obtain ⟨cur, q1, q2, q3, q4, q5, q6⟩ : ∃ cur, base ≤ g ∧ w.heap[g]? = some (.cells cur 27 (0, 0)) ∧ l.length ≤ cap ∧ cap ≤ maxLen ∧ cur.size = cap * 3 ∧ cur.toList.take (l.length * 3) = rowU l := by
    rcases hown.2 with ⟨e, _⟩ | ⟨g', cap', cur, e, h⟩
    · cases e
    · cases e; exact ⟨cur, h⟩
  have eg : ∀ args w, (callFunc 32 args).run Tryz.prog w = .ok (.enter 32 args) w := enters_of Tryz.func32 (by kernel_rfl) rfl
  have hH : Sort.HoldsK Up.cells 3 w g 0 l.toArray := by
    intro j hj
    rw [Sort.size_flatK] at hj
    have hj' : j < l.length * 3 := by simpa using hj
    refine ⟨?_, f_of q2⟩
    rw [cell_of_row w _ _ _ _ _ q2, Nat.zero_add]
    have h1 : (Sort.flatK Up.cells 3 l.toArray).toList = rowU l := flatU l.toArray
    have h2 : cur[j]? = (rowU l)[j]? := by rw [← q6, List.getElem?_take, if_pos hj']; simp
    rw [h2, ← h1, Array.getElem?_toList, Array.getElem?_eq_getElem (by rw [Sort.size_flatK]; exact hj), getElem!_pos _ j (by rw [Sort.size_flatK]; exact hj)]
    rfl
  have hcon := AnyQ.slices_SortFunc_small_sorted Tryz.sortU 3 Tryz.isAgg27 Tryz.sizeOf27 Up.cells (fun _ => rfl) (fun x v hv => by
      simp only [Up.cells, List.mem_cons, List.not_mem_nil, or_false] at hv
      rcases hv with rfl | rfl | rfl <;> rfl) cmpU 32 #[] swoU g 0 cap l.toArray w eg (fun _ _ _ _ x y => closureU x y _) hH (heap_lt q2) (by simpa using h12) hlen_any
  have hcon' : Calls Tryz.prog 31 #[.slice (some ⟨g, 0, none⟩) l.length cap, .func (.func 32) #[] #[]] w _ := hcon
  refine hcon'.mono ?_
  rintro e w' ⟨he, d', n, os, hp, hs, rfl⟩
  have hpl := perm_list (d := l.toArray) hp
  have hdl : d'.size = l.length := by simpa using hp.1
  obtain ⟨cur', r1, r2, r3⟩ := putRow_block w n g (Sort.flatK Up.cells 3 d') cur 27 os q2 (by rw [Sort.size_flatK, hdl, q5]; exact Nat.mul_le_mul_right _ q3)
  refine ⟨he, d'.toList, by simpa using hpl, ?_, ⟨by rw [rowU_length, Array.length_toList, hdl], .inr ⟨g, cap, cur', rfl, q1, r1, q3, q4, by rw [r2, q5], ?_⟩⟩, putRow_grown w n g _ os⟩
  · rw [List.pairwise_iff_getElem]
    intro i j hi hj hij
    rw [Array.length_toList] at hi hj
    have := hs i j (Nat.zero_le _) hij (by simpa [← hdl] using hj)
    rw [ltU, getElem!_pos d' i hi, getElem!_pos d' j hj] at this
    intro q
    rw [Array.getElem_toList, Array.getElem_toList] at q
    unfold ltN at q
    rw [this] at q
    cases q
  · rw [← flatU, ← r3, Sort.size_flatK, hdl]

theorem holdU_row' {w : World} {x : Addr} {m : List Up} (h : ∀ i, i < m.length → ∃ b off, x = ⟨b, off, none⟩ ∧ ∀ k (hk : k < m.length), UpAt w b (off + k * 3) m[k]) : ∀ j u, (rowU m)[j]? = some u → w.cell? (x.add j) = some u := by
  intro j u hj
  have hlt : j < m.length * 3 := by
    rcases Nat.lt_or_ge j (m.length * 3) with q | q
    · exact q
    · rw [List.getElem?_eq_none (by rw [rowU_length]; exact q)] at hj; cases hj
  obtain ⟨b, off, rfl, hc⟩ := h (j / 3) (by omega)
  have hadd : (⟨b, off, none⟩ : Addr).add j = ⟨b, off + j, none⟩ := by unfold Addr.add; split <;> simp_all
  rw [hadd]
  have hk : j / 3 < m.length := by omega
  have hr := rowU_get m (j / 3) (j % 3) hk (Nat.mod_lt _ (by decide))
  rw [show j / 3 * 3 + j % 3 = j by omega, hj] at hr
  obtain ⟨c0, c1, c2⟩ := hc (j / 3) hk
  have : j % 3 = 0 ∨ j % 3 = 1 ∨ j % 3 = 2 := by omega
  rcases this with e | e | e
  · rw [e] at hr
    rw [show off + j = off + j / 3 * 3 by omega, c0]
    simpa [Up.cells] using hr.symm
  · rw [e] at hr
    rw [show off + j = off + j / 3 * 3 + 1 by omega, c1]
    simpa [Up.cells] using hr.symm
  · rw [e] at hr
    rw [show off + j = off + j / 3 * 3 + 2 by omega, c2]
    simpa [Up.cells] using hr.symm

set_option maxHeartbeats 1000000 in
theorem cloneU_any (a : Option Addr) (c : Nat) (l : List Up) (w : World) (h : HoldsU w a l) (hl : l.length ≤ 900) (ha : a = none → l = []) :
    Calls Tryz.prog 30 #[.slice a l.length c] w fun e w' => ∃ v', e = .returned v' ∧ w'.ownsRow w.heap.size 27 3 v' l.length (rowU l) ∧ Below w.heap.size w w' := by
  have q22 : ∀ (w : World) (a : Option Addr) (n c n' c' : Nat), (binOp .eql 24 (.slice a n c) (.slice none n' c')).run Tryz.prog w = .ok (.bool a.isNone) w := fun w a n c n' c' => Lib.run_eql_slice_nil w _ _ a n c n' c' Tryz.underlying24
  cases a with
  | none =>
    have e := ha rfl
    subst e
    have HO : Hid (w.ownsRow w.heap.size 27 3 (.slice none 0 0) ([] : List Up).length (rowU [])) := World.ownsRow_nil _ _ _ _
    clear h ha hl
    go_enter Tryz.func30, Tryz.ntmps30
    go_wp2
    go_ret
    exact ⟨_, rfl, HO.out, Below.refl _ _⟩
  | some x =>
    have hb0 := below_alloc w (.cells #[] 27)
    have hh : ∀ i, i < l.length → ∃ b off, x = ⟨b, off, none⟩ ∧ ∀ k (hk : k < l.length), UpAt (w.alloc (.cells #[] 27)) b (off + k * 3) l[k] := fun i hi => by
      obtain ⟨b, off, e, _, hc⟩ := (h.below hb0) i hi
      exact ⟨b, off, Option.some.inj e, hc⟩
    obtain ⟨i0, hi0, hz0, hzs, hzb⟩ := info_parts Tryz.info27
    have o0 : (w.alloc (.cells #[] 27)).ownsRow w.heap.size 27 3 (.slice (some ⟨w.heap.size, 0, none⟩) 0 0) 0 [] := World.ownsRow_made w #[] 0 (Nat.le_refl _) (by unfold maxLen; omega) rfl
    obtain ⟨v', w', hr, p1, p2, _⟩ := run_append_own (P := Tryz.prog) _ w.heap.size 24 24 27 i0 _ 3 32 Tryz.underlying24 hi0 hz0 hzs hzb rfl (by omega) _ 0 [] o0 x l.length c (rowU l) (rowU_length l) (holdU_row' hh) (rowU_one l) (by unfold maxLen; omega) (by omega) hb0.size
    have HF : Hid (w'.ownsRow w.heap.size 27 3 v' l.length (rowU l) ∧ Below w.heap.size w w') := by
      refine ⟨by simpa using p1, ?_⟩
      exact hb0.trans ⟨p2.os, p2.tape, p2.output, p2.size, fun k hk => p2.block k (by have := hb0.size; omega) (fun e => by simp [Value.ownBlock] at e; omega)⟩
    obtain ⟨g', m', c', rfl⟩ := own_slice_g p1
    clear p1 p2 hh h o0 ha hb0
    go_enter Tryz.func30, Tryz.ntmps30
    go_wp2_with (at_builtin; refine wpList_append_g (by rfl) (.tmp 5) (.tmp 6) (by rfl) _ _ (by rfl) (by rfl) hr ?_)
    go_ret
    exact ⟨_, rfl, HF.out.1, HF.out.2⟩
end

section
open Go.RowKit
set_option maxRecDepth 100000

/-- append of one ref onto a row of one's own; the new row is the old one's block or a new block. -/
theorem app_ref (w : World) (base : Nat) (ty : TypeId) (v : Value) (n : Nat) (xs : List Value) (hown : w.ownsRow base 38 2 v n xs) (vb : Nat) (ys : Array Value) (hv : w.heap[vb]? = some (.cells ys 38)) (hys : ys.size = 2)
    (h2 : ∀ v ∈ ys.toList, v.oneCell' = true) (hn : n ≤ 1000) (hbase : base ≤ w.heap.size) :
    ∃ v' w', (Builtin.append_ #[22, 22] ty #[v, .slice (some ⟨vb, 0, none⟩) 1 1]).run Tryz.prog w = .ok v' w' ∧ w'.ownsRow base 38 2 v' (n + 1) (xs ++ ys.toList) ∧ w.grownBy w' v.ownBlock ∧ ∀ k, v'.ownBlock = some k → v.ownBlock = some k ∨ w.heap.size ≤ k := by
  obtain ⟨i0, hi0, hz0, hzs, hzb⟩ := info_parts Tryz.info38
  have hl : ys.toList.length = 1 * 2 := by rw [Array.length_toList, hys]
  have hnews := World.news_of_block hv
  obtain ⟨v', w', hr, q1, q2, _⟩ := run_append_own (P := Tryz.prog) w base 22 ty 38 i0 _ 2 24 Tryz.underlying22 hi0 hz0 hzs hzb rfl (by omega) v n xs hown ⟨vb, 0, none⟩ 1 1 ys.toList hl hnews h2 (by unfold maxLen; omega) (by omega) hbase
  refine ⟨v', w', hr, q1, q2, ?_⟩
  rcases hown.2 with ⟨rfl, rfl⟩ | ⟨g, cap, cur, rfl, hbg, hg, hnc, hcm, hcs, htake⟩
  · obtain ⟨v2, w2, hr2, p1, _, _⟩ := run_append_own (P := Tryz.prog) w w.heap.size 22 ty 38 i0 _ 2 24 Tryz.underlying22 hi0 hz0 hzs hzb rfl (by omega) _ 0 [] (World.ownsRow_nil _ _ _ _) ⟨vb, 0, none⟩ 1 1 ys.toList hl hnews h2 (by unfold maxLen; omega) (by omega) (Nat.le_refl _)
    rw [hr] at hr2
    cases hr2
    exact fun k hk => .inr (p1.lt k hk).1
  · by_cases hroom : n + 1 ≤ cap
    · have hr2 := run_append_room (P := Tryz.prog) w 22 ty 38 i0 Tryz.underlying22 hi0 g n cap cur hg ⟨vb, 0, none⟩ 1 1 ys.toList (by rw [hzs]; exact hl) hnews h2 hroom (by rw [hzs, hl]; omega)
      rw [hr] at hr2
      cases hr2
      exact fun k hk => .inl hk
    · have hr2 := run_append_grow (P := Tryz.prog) w 22 ty 38 i0 _ Tryz.underlying22 hi0 hz0 ⟨g, 0, none⟩ n cap xs (by rw [hzs]; exact hown.1) (hown.cells (g := g) rfl) ⟨vb, 0, none⟩ 1 1 ys.toList (by rw [hzs]; exact hl) hnews (by omega) (by omega) (by rw [hzb]; exact growslice_fits (by omega) (by omega))
      rw [hr] at hr2
      cases hr2
      exact fun k hk => .inr (by simp [Value.ownBlock] at hk; omega)

/-- a board at p: its row lies above base. -/
structure Board (base : Nat) (w : World) (p : Nat) (v : Value) (l : List Rf) (x1 x2 : Value) : Prop where
  blk : w.heap[p]? = some (.cells #[v, x1, x2] 67)
  le : base ≤ p
  own : w.ownsRow base 38 2 v l.length (rowR l)
  ne : v.ownBlock ≠ some p
theorem Board.lt {base : Nat} {w : World} {p : Nat} {v : Value} {l : List Rf} {x1 x2 : Value} (h : Board base w p v l x1 x2) : p < w.heap.size := heap_lt h.blk
theorem Board.below {base : Nat} {w w' : World} {p : Nat} {v : Value} {l : List Rf} {x1 x2 : Value} (h : Board base w p v l x1 x2) (hb : Below w.heap.size w w') : Board base w' p v l x1 x2 :=
  ⟨(hb.block p h.lt).trans h.blk, h.le, ownsRow_kept h.own (fun g hg => hb.block g (h.own.lt g hg).2), h.ne⟩
theorem Board.next {base : Nat} {w w1 w2 : World} {p : Nat} {v v' : Value} {l l' : List Rf} {x1 x2 : Value} (h : Board base w p v l x1 x2) (hb : Below w.heap.size w w1) (hg : w1.grownBy w2 v.ownBlock) (ho : w2.ownsRow base 38 2 v' l'.length (rowR l')) (hk : v'.ownBlock ≠ some p) :
    Board base (w2.setCell ⟨p, 0, none⟩ v') p v' l' x1 x2 ∧ Below base w (w2.setCell ⟨p, 0, none⟩ v') := by
  have h1 := h.below hb
  have hpl := h.lt
  have hle := h.le
  have hbp : w2.heap[p]? = some (.cells #[v, x1, x2] 67) := (hg.block p h1.lt (fun e => h.ne e.symm)).trans h1.blk
  have hoth : ∀ k, k ≠ p → (w2.setCell ⟨p, 0, none⟩ v').heap[k]? = w2.heap[k]? := fun k hk => heap_setCell_other w2 ⟨p, 0, none⟩ k v' hk
  have hsz : (w2.setCell ⟨p, 0, none⟩ v').heap.size = w2.heap.size := World.size_setCell _ _ _
  have hs1 := hb.size
  have hs2 := hg.size
  refine ⟨⟨?_, h.le, ?_, hk⟩, ?_⟩
  · have := heap_setCell_same w2 p 0 #[v, x1, x2] 67 v' hbp
    simpa using this
  · exact ownsRow_kept ho (fun g e => hoth g (fun q => hk (by rw [← q]; exact e)))
  · refine ⟨hg.os.trans hb.os, hg.tape.trans hb.tape, hg.output.trans hb.output, by omega, fun k hk' => ?_⟩
    rw [hoth k (by omega), hg.block k (by omega) (fun e => by have := (h.own.lt k e.symm).1; omega)]
    exact hb.block k (by omega)
/-- the row laid anew in place. -/
theorem Board.turned {base : Nat} {w w2 : World} {p : Nat} {v : Value} {l l' : List Rf} {x1 x2 : Value} (h : Board base w p v l x1 x2) (hg : w.grownBy w2 v.ownBlock) (ho : w2.ownsRow base 38 2 v l'.length (rowR l')) :
    Board base w2 p v l' x1 x2 ∧ Below base w w2 := by
  have hpl := h.lt
  have hle := h.le
  refine ⟨⟨(hg.block p h.lt (fun e => h.ne e.symm)).trans h.blk, h.le, ho, h.ne⟩, ⟨hg.os, hg.tape, hg.output, hg.size, fun k hk => hg.block k (by omega) (fun e => by have := (h.own.lt k e.symm).1; omega)⟩⟩

set_option maxHeartbeats 4000000 in
theorem change_any (base p : Nat) (v : Value) (l : List Rf) (x1 x2 : Value) (nm : ByteArray) (id : Int) (w : World) (hB : Board base w p v l x1 x2) (hS : SortR l) (hl : l.length ≤ 11) :
    Calls Tryz.prog 63 #[.pointer (some ⟨p, 0, none⟩), .string nm, .int .i64 id] w fun e w' => e = .returned (.tuple #[]) ∧ (∃ v', Board base w' p v' (changeL l nm id) x1 x2) ∧ Below base w w' := by
  have hmf : ∀ (fn : Fn) (first cap : Array Value) (w : World), (Instr.makeFunc fn first cap).run Tryz.prog w = .ok (.func fn first cap) w := fun _ _ _ _ => rfl
  have HS : Hid (SortR l) := hS
  clear hS
  have hA := below_alloc w (.cells #[.string nm] 9)
  have hbk := heap_alloc_new w (.cells #[.string nm] 9)
  have BA := hB.below hA
  have hBle : base ≤ w.heap.size := Nat.le_of_lt (Nat.lt_of_le_of_lt hB.le hB.lt)
  have hBn : v.ownBlock ≠ some w.heap.size := fun e => by have := (hB.own.lt _ e).2; omega
  have hpn : p ≠ w.heap.size := Nat.ne_of_lt hB.lt
  have hAb := hA.mono hBle
  obtain ⟨c0, c1, c2⟩ := c3_of BA.blk
  have hBl := heap_lt hbk
  have hdel := delete_any base v l nm w.heap.size _ BA.own (c1_of hbk) hBl hBn (by omega)
  go_enter Tryz.func63, Tryz.ntmps63
  go_wp2_with fail
  refine hdel.mono ?_
  clear hdel
  rintro e W1 ⟨v1, rfl, o1, g1, k1⟩
  generalize w.alloc (.cells #[.string nm] 9) = W0 at *
  obtain ⟨B, hBe⟩ : ∃ B, B = w.heap.size := ⟨_, rfl⟩
  rw [← hBe] at hbk hBn hpn hBl
  rw [← hBe]
  clear hBe hB hA
  obtain ⟨a1, m1, cc1, rfl⟩ := own_slice_g o1
  have hk1 : (Value.slice a1 m1 cc1).ownBlock ≠ some p := by rw [k1]; exact BA.ne
  have hBn1 : (Value.slice a1 m1 cc1).ownBlock ≠ some B := by rw [k1]; exact hBn
  have NX := BA.next (Below.refl _ _) g1 o1 hk1
  have hp1 : W1.heap[p]? = some (.cells #[v, x1, x2] 67) := (g1.block p BA.lt (fun e => BA.ne e.symm)).trans BA.blk
  have hbk1 := (g1.block B hBl (fun e => hBn e.symm)).trans hbk
  have z0 := (c3_of hp1).1
  have zf := f_of (o := 0) hp1
  have hbk2 : (W1.setCell ⟨p, 0, none⟩ (.slice a1 m1 cc1)).heap[B]? = some (.cells #[.string nm] 9) := by
    rw [heap_setCell_other W1 ⟨p, 0, none⟩ B _ (fun e => hpn e.symm)]; exact hbk1
  have hBw := hAb.trans (NX.2)
  have HLN : Hid ((dropR l nm).length ≤ 11) := by unfold Hid; have : (dropR l nm).length ≤ l.length := List.length_filter_le _ _; omega
  obtain ⟨B1, -⟩ := NX
  clear BA g1 o1 k1 c0 c1 c2 hbk hBl hAb hBn hp1 hbk1
  by_cases hz : id = 0
  · have HC : Hid (changeL l nm id = dropR l nm) := if_pos hz
    rw [hz]
    clear hz
    have HF : Hid ((∃ v', Board base (W1.setCell ⟨p, 0, none⟩ (.slice a1 m1 cc1)) p v' (changeL l nm id) x1 x2) ∧ Below base w (W1.setCell ⟨p, 0, none⟩ (.slice a1 m1 cc1))) := ⟨⟨_, by rw [HC.out]; exact B1⟩, hBw⟩
    clear B1 hBw hbk2
    go_wp2
    refine bodyPost_ret (results_none rfl _ _ _) rfl ?_
    exact ⟨rfl, HF.out.1, HF.out.2⟩
  have z1 : (id == 0) = false := by simpa using hz
  have HC : Hid (changeL l nm id = insR ⟨nm, id⟩ (dropR l nm)) := if_neg hz
  clear hz
  go_wp2_with fail
  generalize W1.setCell ⟨p, 0, none⟩ (.slice a1 m1 cc1) = W2 at *
  clear z0 zf z1
  have hdr := (Below.refl W2.heap.size W2).drew
  have BD := B1.below hdr
  have hbD := (hdr.block _ (heap_lt hbk2)).trans hbk2
  have hBwD := hBw.trans (hdr.mono (Nat.le_of_lt (Nat.lt_of_le_of_lt B1.le B1.lt)))
  clear B1 hbk2 hBw hdr
  refine wp_region_E (fun W => W.heap[p]? = some (.cells #[.slice a1 m1 cc1, x1, x2] 67) ∧ W.cell? ⟨B, 0, none⟩ = some (.string nm)) (fun k => k == 12) (by kernel_rfl) ⟨BD.blk, c1_of hbD⟩ (fun hS => ?_)
  generalize W2.drew = W3 at *
  refine wpAnyE.take (i := 0) (v := ?_) rfl (by kernel_rfl) (by kernel_rfl) (by kernel_rfl) (by kernel_rfl) (fun _ _ _ h => h) (Or.inl ⟨by rfl, ?_⟩) (by assumption) ?_
  rotate_left
  · intro w hSw; obtain ⟨z0, z1, z2⟩ := c3_of hSw.1; have z := hSw.2; clear hSw; go_simp; with_reducible rfl
  try simp only [Act.put, List.getElem_toArray, List.getElem_cons_zero, List.setIfInBounds_toArray, List.set_cons_zero, List.set_cons_succ]
  refine wpAnyE.take (i := 1) (v := ?_) rfl (by kernel_rfl) (by kernel_rfl) (by kernel_rfl) (by kernel_rfl) (fun _ _ _ h => h) (Or.inl ⟨by rfl, ?_⟩) (by assumption) ?_
  rotate_left
  · intro w hSw; obtain ⟨z0, z1, z2⟩ := c3_of hSw.1; have z := hSw.2; clear hSw; go_simp; with_reducible rfl
  try simp only [Act.put, List.getElem_toArray, List.getElem_cons_succ, List.getElem_cons_zero, List.setIfInBounds_toArray, List.set_cons_zero, List.set_cons_succ]
  refine wpAnyE.take (i := 2) (v := ?_) rfl (by kernel_rfl) (by kernel_rfl) (by kernel_rfl) (by kernel_rfl) (fun _ _ _ h => h) (Or.inl ⟨by rfl, ?_⟩) (by assumption) ?_
  rotate_left
  · intro w hSw; obtain ⟨z0, z1, z2⟩ := c3_of hSw.1; have z := hSw.2; clear hSw; go_simp; with_reducible rfl
  try simp only [Act.put, List.getElem_toArray, List.getElem_cons_succ, List.getElem_cons_zero, List.setIfInBounds_toArray, List.set_cons_zero, List.set_cons_succ]
  refine wpAnyE.take (i := 3) (v := ?_) rfl (by kernel_rfl) (by kernel_rfl) (by kernel_rfl) (by kernel_rfl) (fun _ _ _ h => h) (Or.inl ⟨by rfl, ?_⟩) (by assumption) ?_
  rotate_left
  · intro w hSw; obtain ⟨z0, z1, z2⟩ := c3_of hSw.1; have z := hSw.2; clear hSw; go_simp; with_reducible rfl
  try simp only [Act.put, List.getElem_toArray, List.getElem_cons_succ, List.getElem_cons_zero, List.setIfInBounds_toArray, List.set_cons_zero, List.set_cons_succ]
  refine wpAnyE.take (i := 4) (v := ?_) rfl (by kernel_rfl) (by kernel_rfl) (by kernel_rfl) (by kernel_rfl) (fun _ _ _ h => h) (Or.inl ⟨by rfl, ?_⟩) (by assumption) ?_
  rotate_left
  · intro w hSw; obtain ⟨z0, z1, z2⟩ := c3_of hSw.1; have z := hSw.2; clear hSw; go_simp; with_reducible rfl
  try simp only [Act.put, List.getElem_toArray, List.getElem_cons_succ, List.getElem_cons_zero, List.setIfInBounds_toArray, List.set_cons_zero, List.set_cons_succ]
  refine wpAnyE.take (i := 5) (v := ?_) rfl (by kernel_rfl) (by kernel_rfl) (by kernel_rfl) (by kernel_rfl) (fun _ _ _ h => h) (Or.inl ⟨by rfl, ?_⟩) (by assumption) ?_
  rotate_left
  · intro w hSw; obtain ⟨z0, z1, z2⟩ := c3_of hSw.1; have z := hSw.2; clear hSw; go_simp; with_reducible rfl
  try simp only [Act.put, List.getElem_toArray, List.getElem_cons_succ, List.getElem_cons_zero, List.setIfInBounds_toArray, List.set_cons_zero, List.set_cons_succ]
  refine wpAnyE.take (i := 6) (v := ?_) rfl (by kernel_rfl) (by kernel_rfl) (by kernel_rfl) (by kernel_rfl) (fun _ _ _ h => h) (Or.inl ⟨by rfl, ?_⟩) (by assumption) ?_
  rotate_left
  · intro w hSw; obtain ⟨z0, z1, z2⟩ := c3_of hSw.1; have z := hSw.2; clear hSw; go_simp; with_reducible rfl
  try simp only [Act.put, List.getElem_toArray, List.getElem_cons_succ, List.getElem_cons_zero, List.setIfInBounds_toArray, List.set_cons_zero, List.set_cons_succ]
  refine wpAnyE.take (i := 7) (v := ?_) rfl (by kernel_rfl) (by kernel_rfl) (by kernel_rfl) (by kernel_rfl) (fun _ _ _ h => h) (Or.inl ⟨by rfl, ?_⟩) (by assumption) ?_
  rotate_left
  · intro w hSw; obtain ⟨z0, z1, z2⟩ := c3_of hSw.1; have z := hSw.2; clear hSw; go_simp; with_reducible rfl
  try simp only [Act.put, List.getElem_toArray, List.getElem_cons_succ, List.getElem_cons_zero, List.setIfInBounds_toArray, List.set_cons_zero, List.set_cons_succ]
  refine wpAnyE.one (i := 8) (by kernel_rfl) rfl (fun K hK => ?_)
  go_simp
  obtain ⟨W4, hW4⟩ : ∃ W4, W4 = W3.alloc (.cells #[.string nm, .int .i64 id] 38) := ⟨_, rfl⟩
  have hb4 : Below W3.heap.size W3 W4 := by rw [hW4]; exact below_alloc _ _
  have hv4 : W4.heap[W3.heap.size]? = some (.cells #[.string nm, .int .i64 id] 38) := by rw [hW4]; exact heap_alloc_new W3 _
  rw [← hW4]
  clear hW4
  have hS4 : W4.heap[p]? = some (.cells #[.slice a1 m1 cc1, x1, x2] 67) ∧ W4.cell? ⟨B, 0, none⟩ = some (.string nm) := ⟨(hb4.block _ (heap_lt hS.1)).trans hS.1, (hb4.cell (p := ⟨B, 0, none⟩) (heap_lt hbD)).trans hS.2⟩
  refine hK _ _ (fun _ => hS4) ?_
  clear hK K hS
  try simp only [Act.put, List.getElem_toArray, List.getElem_cons_succ, List.getElem_cons_zero, List.setIfInBounds_toArray, List.set_cons_zero, List.set_cons_succ]
  refine wpAnyE.one (i := 9) (by kernel_rfl) rfl (fun K hK => ?_)
  have B4 := BD.below hb4
  obtain ⟨v5, W5, hr5, ho5, hg5, hk5⟩ := app_ref W4 base 22 _ (dropR l nm).length (rowR (dropR l nm)) B4.own W3.heap.size _ hv4 rfl (by intro u hu; simp only [List.mem_cons, List.not_mem_nil, or_false] at hu; rcases hu with rfl | rfl <;> rfl) (by have := HLN.out; omega) (Nat.le_of_lt (Nat.lt_of_le_of_lt B4.le B4.lt))
  obtain ⟨g5, m5, c5, rfl⟩ := own_slice_g ho5
  refine step_append_g (by rfl) (.tmp 21) (.tmp 25) (by rfl) _ _ (by rfl) (by rfl) hr5 ?_
  have hp5 := (hg5.block _ B4.lt (fun e => B4.ne e.symm)).trans B4.blk
  have hS5 : W5.heap[p]? = some (.cells #[.slice a1 m1 cc1, x1, x2] 67) ∧ W5.cell? ⟨B, 0, none⟩ = some (.string nm) := ⟨hp5, (World.cell?_of_block (a := ⟨B, 0, none⟩) (hg5.block B (Nat.lt_of_lt_of_le (heap_lt hbD) hb4.size) (fun e => hBn1 e.symm))).trans hS4.2⟩
  refine hK _ _ (fun _ => hS5) ?_
  clear hK K hS4 hr5
  try simp only [Act.put, List.getElem_toArray, List.getElem_cons_succ, List.getElem_cons_zero, List.setIfInBounds_toArray, List.set_cons_zero, List.set_cons_succ]
  refine wpAnyE.one (i := 10) (by kernel_rfl) rfl (fun K hK => ?_)
  go_simp
  refine hK _ _ (fun _ => hS5) ?_
  clear hK K
  try simp only [Act.put, List.getElem_toArray, List.getElem_cons_succ, List.getElem_cons_zero, List.setIfInBounds_toArray, List.set_cons_zero, List.set_cons_succ]
  refine wpAnyE.one (i := 11) (by kernel_rfl) rfl (fun K hK => ?_)
  go_simp
  refine hK _ _ (fun _ => hS5) ?_
  clear hK K
  try simp only [Act.put, List.getElem_toArray, List.getElem_cons_succ, List.getElem_cons_zero, List.setIfInBounds_toArray, List.set_cons_zero, List.set_cons_succ]
  clear hS5
  have zc := (c3_of hp5).1
  have zf := f_of (o := 0) hp5
  refine wpAnyE.one (i := 12) (by kernel_rfl) rfl (fun K hK => ?_)
  go_simp
  refine hK _ _ (fun h => by cases h) ?_
  clear hK K
  try simp only [Act.put, List.getElem_toArray, List.getElem_cons_succ, List.getElem_cons_zero, List.setIfInBounds_toArray, List.set_cons_zero, List.set_cons_succ]
  refine wpAnyE.done (by kernel_rfl) ?_
  have NX := BD.next (l' := dropR l nm ++ [⟨nm, id⟩]) hb4 hg5 (by rw [List.length_append, rowR_append]; exact ho5) (fun e => by
    rcases hk5 p e with q | q
    · exact B4.ne q
    · have := B4.lt; omega)
  have hBw6 := hBwD.trans NX.2
  obtain ⟨B6, -⟩ := NX
  clear hg5 ho5 hk5 hp5 hv4 hb4 BD hbD hBwD zf zc B4 hpn hBn1
  generalize W5.setCell ⟨p, 0, none⟩ (.slice g5 m5 c5) = W6 at *
  have HL12 : Hid ((dropR l nm ++ [(⟨nm, id⟩ : Rf)]).length ≤ 12) := by unfold Hid; rw [List.length_append]; have := HLN.out; simp only [List.length_singleton]; omega
  have HLp : Hid (0 < (dropR l nm ++ [(⟨nm, id⟩ : Rf)]).length) := by unfold Hid; rw [List.length_append]; simp
  obtain ⟨L, hL⟩ : ∃ L, L = dropR l nm ++ [(⟨nm, id⟩ : Rf)] := ⟨_, rfl⟩
  rw [← hL] at B6 HL12 HLp
  have HL : Hid (L = dropR l nm ++ [(⟨nm, id⟩ : Rf)]) := hL
  clear hL HLN
  obtain ⟨g, cap, hv6⟩ : ∃ g cap, (Value.slice g5 m5 c5) = .slice (some ⟨g, 0, none⟩) L.length cap := by
    rcases B6.own.2 with ⟨_, e⟩ | ⟨g, cap, _, e, _⟩
    · have := HLp.out; omega
    · exact ⟨g, cap, e⟩
  cases hv6
  have hso := sortR_any base g c5 L W6 B6.own HL12.out
  obtain ⟨c0, c1, c2⟩ := c3_of B6.blk
  go_wp2_with fail
  refine hso.mono ?_
  clear hso
  rintro e W7 ⟨rfl, d, hp, hs, o7, g7⟩
  have hd : d = insR ⟨nm, id⟩ (dropR l nm) := insR_one (dropR_sort HS.out nm) (fun r hr => (dropR_mem.1 hr).2) (by rw [← HL.out]; exact hp) hs
  have hdl : d.length = L.length := hp.length_eq
  have TN := B6.turned (l' := d) g7 (by rw [hdl]; exact o7)
  have HF : Hid ((∃ v', Board base W7 p v' (changeL l nm id) x1 x2) ∧ Below base w W7) := ⟨⟨_, by rw [HC.out, ← hd]; exact TN.1⟩, hBw6.trans TN.2⟩
  clear TN hd hdl o7 g7 hp hs B6 hBw6 c0 c1 c2
  go_wp2
  go_end0
  exact ⟨rfl, HF.out.1, HF.out.2⟩
end

section
open Go.RowKit
set_option maxRecDepth 100000

set_option maxHeartbeats 4000000 in
theorem mayBecome_any (p : Nat) (v : Value) (ao : Option Addr) (co : Nat) (o : List Ob) (force : Bool) (u : Up) (w : World) (hP : w.heap[p]? = some (.cells #[v, .slice ao o.length co, .bool force] 67)) (ho : HoldsS w ao o) (hroom : Room w ao o) (hol : o.length ≤ 9223372036854775807) :
    Calls Tryz.prog 62 #[.pointer (some ⟨p, 0, none⟩), u.val] w fun e w' => e = .returned (.int .i64 (mayE o force u)) ∧ Below w.heap.size w w' := by
  have hA := below_alloc w (.cells #[.string u.name, .int .i64 u.old, .int .i64 u.new] 27)
  have hbk := heap_alloc_new w (.cells #[.string u.name, .int .i64 u.old, .int .i64 u.new] 27)
  have hPA := (hA.block _ (heap_lt hP)).trans hP
  obtain ⟨y0, y1, y2⟩ := c3_of hbk
  have HM : Hid (∀ old, old = (if u.old = 0 then u.new else u.old) → mayE o force u = if behindE o old u.new ≠ 0 then behindE o old u.new else if behindB o old u.new || force then 0 else 4) := by
    intro old e; rw [e]; rfl
  have hoA := ho.below hA
  have hrA := hroom.below hA
  have main : ∀ (old : Int) (b : Bool), (u.old == 0) = b → old = (if u.old = 0 then u.new else u.old) → old = (if b = true then u.new else u.old) → Calls Tryz.prog 62 #[.pointer (some ⟨p, 0, none⟩), u.val] w fun e w' => e = .returned (.int .i64 (mayE o force u)) ∧ Below w.heap.size w w' := by
    intro old b hb hold hold2
    have HM1 := HM.out old hold
    have HMo : Hid (mayE o force u = if behindE o old u.new ≠ 0 then behindE o old u.new else if behindB o old u.new || force then 0 else 4) := HM1
    clear HM HM1 hold hP ho hroom
    cases b with
    | true =>
      have e : old = u.new := hold2
      subst e
      clear hold2
      go_enter Tryz.func62, Tryz.ntmps62
      go_wp2_with fail
      generalize w.alloc (.cells #[.string u.name, .int .i64 u.old, .int .i64 u.new] 27) = W at *
      obtain ⟨B, hBe⟩ : ∃ B, B = w.heap.size := ⟨_, rfl⟩
      have hdr := (Below.refl W.heap.size W).drew
      have hPD := (hdr.block _ (heap_lt hPA)).trans hPA
      have hbD := (hdr.block _ (heap_lt hbk)).trans hbk
      have hoD := hoA.below hdr
      have hrD := hrA.below hdr
      have hBD := hA.trans (hdr.mono hA.size)
      rw [← hBe] at hbD
      rw [← hBe]
      clear hBe hdr hPA hbk hoA hrA hA y0 y1 y2
      refine wp_region_E (fun W => W.heap[p]? = some (.cells #[v, .slice ao o.length co, .bool force] 67) ∧ W.heap[B]? = some (.cells #[.string u.name, .int .i64 u.old, .int .i64 u.new] 27)) (fun _ => false) (by kernel_rfl) ⟨hPD, hbD⟩ (fun hS => ?_)
      generalize W.drew = W0 at *
      refine wpAnyE.take (i := 0) (v := ?_) rfl (by kernel_rfl) (by kernel_rfl) (by kernel_rfl) (by kernel_rfl) (fun _ _ _ h => h) (Or.inl ⟨by rfl, ?_⟩) (by assumption) ?_
      rotate_left
      · intro w hSw; obtain ⟨z0, z1, z2⟩ := c3_of hSw.1; obtain ⟨z3, z4, z5⟩ := c3_of hSw.2; clear hSw; go_simp; with_reducible rfl
      try simp only [Act.put, List.getElem_toArray, List.getElem_cons_zero, List.setIfInBounds_toArray, List.set_cons_zero, List.set_cons_succ]
      refine wpAnyE.take (i := 1) (v := ?_) rfl (by kernel_rfl) (by kernel_rfl) (by kernel_rfl) (by kernel_rfl) (fun _ _ _ h => h) (Or.inl ⟨by rfl, ?_⟩) (by assumption) ?_
      rotate_left
      · intro w hSw; obtain ⟨z0, z1, z2⟩ := c3_of hSw.1; obtain ⟨z3, z4, z5⟩ := c3_of hSw.2; clear hSw; go_simp; with_reducible rfl
      try simp only [Act.put, List.getElem_toArray, List.getElem_cons_succ, List.getElem_cons_zero, List.setIfInBounds_toArray, List.set_cons_zero, List.set_cons_succ]
      refine wpAnyE.take (i := 2) (v := ?_) rfl (by kernel_rfl) (by kernel_rfl) (by kernel_rfl) (by kernel_rfl) (fun _ _ _ h => h) (Or.inl ⟨by rfl, ?_⟩) (by assumption) ?_
      rotate_left
      · intro w hSw; obtain ⟨z0, z1, z2⟩ := c3_of hSw.1; obtain ⟨z3, z4, z5⟩ := c3_of hSw.2; clear hSw; go_simp; with_reducible rfl
      try simp only [Act.put, List.getElem_toArray, List.getElem_cons_succ, List.getElem_cons_zero, List.setIfInBounds_toArray, List.set_cons_zero, List.set_cons_succ]
      refine wpAnyE.take (i := 3) (v := ?_) rfl (by kernel_rfl) (by kernel_rfl) (by kernel_rfl) (by kernel_rfl) (fun _ _ _ h => h) (Or.inl ⟨by rfl, ?_⟩) (by assumption) ?_
      rotate_left
      · intro w hSw; obtain ⟨z0, z1, z2⟩ := c3_of hSw.1; obtain ⟨z3, z4, z5⟩ := c3_of hSw.2; clear hSw; go_simp; with_reducible rfl
      try simp only [Act.put, List.getElem_toArray, List.getElem_cons_succ, List.getElem_cons_zero, List.setIfInBounds_toArray, List.set_cons_zero, List.set_cons_succ]
      refine wpAnyE.take (i := 4) (v := ?_) rfl (by kernel_rfl) (by kernel_rfl) (by kernel_rfl) (by kernel_rfl) (fun _ _ _ h => h) (Or.inl ⟨by rfl, ?_⟩) (by assumption) ?_
      rotate_left
      · intro w hSw; obtain ⟨z0, z1, z2⟩ := c3_of hSw.1; obtain ⟨z3, z4, z5⟩ := c3_of hSw.2; clear hSw; go_simp; with_reducible rfl
      try simp only [Act.put, List.getElem_toArray, List.getElem_cons_succ, List.getElem_cons_zero, List.setIfInBounds_toArray, List.set_cons_zero, List.set_cons_succ]
      refine wpAnyE.take (i := 5) (v := ?_) rfl (by kernel_rfl) (by kernel_rfl) (by kernel_rfl) (by kernel_rfl) (fun _ _ _ h => h) (Or.inl ⟨by rfl, ?_⟩) (by assumption) ?_
      rotate_left
      · intro w hSw; obtain ⟨z0, z1, z2⟩ := c3_of hSw.1; obtain ⟨z3, z4, z5⟩ := c3_of hSw.2; clear hSw; go_simp; with_reducible rfl
      try simp only [Act.put, List.getElem_toArray, List.getElem_cons_succ, List.getElem_cons_zero, List.setIfInBounds_toArray, List.set_cons_zero, List.set_cons_succ]
      refine wpAnyE.take (i := 6) (v := ?_) rfl (by kernel_rfl) (by kernel_rfl) (by kernel_rfl) (by kernel_rfl) (fun _ _ _ h => h) (Or.inl ⟨by rfl, ?_⟩) (by assumption) ?_
      rotate_left
      · intro w hSw; obtain ⟨z0, z1, z2⟩ := c3_of hSw.1; obtain ⟨z3, z4, z5⟩ := c3_of hSw.2; clear hSw; go_simp; with_reducible rfl
      try simp only [Act.put, List.getElem_toArray, List.getElem_cons_succ, List.getElem_cons_zero, List.setIfInBounds_toArray, List.set_cons_zero, List.set_cons_succ]
      refine wpAnyE.one (i := 7) (by kernel_rfl) rfl (fun K hK => ?_)
      go_simp
      refine (behind_any ao co o u.new u.new W0 hoD hrD hol).mono ?_
      rintro e W1 ⟨rfl, hbc⟩
      have hB1 := hBD.trans (hbc.mono hBD.size)
      have hS1 : W1.heap[p]? = some (.cells #[v, .slice ao o.length co, .bool force] 67) ∧ W1.heap[B]? = some (.cells #[.string u.name, .int .i64 u.old, .int .i64 u.new] 27) := ⟨(hbc.block _ (heap_lt hS.1)).trans hS.1, (hbc.block _ (heap_lt hS.2)).trans hS.2⟩
      clear hbc hS hBD hoD hrD
      refine hK _ _ (fun _ => hS1) ?_
      clear hK K
      try simp only [Act.put, List.getElem_toArray, List.getElem_cons_succ, List.getElem_cons_zero, List.setIfInBounds_toArray, List.set_cons_zero, List.set_cons_succ]
      refine wpAnyE.take (i := 8) (v := ?_) rfl (by kernel_rfl) (by kernel_rfl) (by kernel_rfl) (by kernel_rfl) (fun _ _ _ h => h) (Or.inl ⟨by rfl, ?_⟩) (by assumption) ?_
      rotate_left
      · intro w hSw; go_simp; with_reducible rfl
      try simp only [Act.put, List.getElem_toArray, List.getElem_cons_succ, List.getElem_cons_zero, List.setIfInBounds_toArray, List.set_cons_zero, List.set_cons_succ]
      refine wpAnyE.take (i := 9) (v := ?_) rfl (by kernel_rfl) (by kernel_rfl) (by kernel_rfl) (by kernel_rfl) (fun _ _ _ h => h) (Or.inl ⟨by rfl, ?_⟩) (by assumption) ?_
      rotate_left
      · intro w hSw; go_simp; with_reducible rfl
      try simp only [Act.put, List.getElem_toArray, List.getElem_cons_succ, List.getElem_cons_zero, List.setIfInBounds_toArray, List.set_cons_zero, List.set_cons_succ]
      refine wpAnyE.take (i := 10) (v := ?_) rfl (by kernel_rfl) (by kernel_rfl) (by kernel_rfl) (by kernel_rfl) (fun _ _ _ h => h) (Or.inl ⟨by rfl, ?_⟩) (by assumption) ?_
      rotate_left
      · intro w hSw; go_simp; with_reducible rfl
      try simp only [Act.put, List.getElem_toArray, List.getElem_cons_succ, List.getElem_cons_zero, List.setIfInBounds_toArray, List.set_cons_zero, List.set_cons_succ]
      refine wpAnyE.take (i := 11) (v := ?_) rfl (by kernel_rfl) (by kernel_rfl) (by kernel_rfl) (by kernel_rfl) (fun _ _ _ h => h) (Or.inl ⟨by rfl, ?_⟩) (by assumption) ?_
      rotate_left
      · intro w hSw; go_simp; with_reducible rfl
      try simp only [Act.put, List.getElem_toArray, List.getElem_cons_succ, List.getElem_cons_zero, List.setIfInBounds_toArray, List.set_cons_zero, List.set_cons_succ]
      refine wpAnyE.take (i := 12) (v := ?_) rfl (by kernel_rfl) (by kernel_rfl) (by kernel_rfl) (by kernel_rfl) (fun _ _ _ h => h) (Or.inl ⟨by rfl, ?_⟩) (by assumption) ?_
      rotate_left
      · intro w hSw; go_simp; with_reducible rfl
      try simp only [Act.put, List.getElem_toArray, List.getElem_cons_succ, List.getElem_cons_zero, List.setIfInBounds_toArray, List.set_cons_zero, List.set_cons_succ]
      refine wpAnyE.done (by kernel_rfl) ?_
      obtain ⟨z0, z1, z2⟩ := c3_of hS1.1
      clear hS1 hPD hbD
      by_cases k1 : behindE o u.new u.new = 0
      case neg =>
        have HR : Hid (mayE o force u = behindE o u.new u.new) := by unfold Hid; rw [HMo.out, if_pos k1]
        have q1 : (behindE o u.new u.new == 0) = false := by simpa using k1
        clear k1
        go_wp2
        go_ret
        exact ⟨ret_int HR.out.symm, hB1⟩
      have HM2 : Hid (mayE o force u = if behindB o u.new u.new || force then 0 else 4) := by unfold Hid; rw [HMo.out, if_neg (fun e => e k1)]
      rw [k1]
      clear k1 HMo
      cases k2 : behindB o u.new u.new with
      | true =>
        have HR : Hid (mayE o force u = 0) := by unfold Hid; rw [HM2.out, k2]; rfl
        clear k2
        go_wp2
        go_ret
        exact ⟨ret_int HR.out.symm, hB1⟩
      | false =>
        cases force with
        | true =>
          have HR : Hid (mayE o true u = 0) := by unfold Hid; rw [HM2.out, k2]; rfl
          clear k2
          go_wp2
          go_ret
          exact ⟨ret_int HR.out.symm, hB1⟩
        | false =>
          have HR : Hid (mayE o false u = 4) := by unfold Hid; rw [HM2.out, k2]; rfl
          clear k2
          go_wp2
          go_ret
          exact ⟨ret_int HR.out.symm, hB1⟩
    | false =>
      have e : old = u.old := hold2
      subst e
      clear hold2
      go_enter Tryz.func62, Tryz.ntmps62
      go_wp2_with fail
      generalize w.alloc (.cells #[.string u.name, .int .i64 u.old, .int .i64 u.new] 27) = W at *
      obtain ⟨B, hBe⟩ : ∃ B, B = w.heap.size := ⟨_, rfl⟩
      have hdr := (Below.refl W.heap.size W).drew
      have hPD := (hdr.block _ (heap_lt hPA)).trans hPA
      have hbD := (hdr.block _ (heap_lt hbk)).trans hbk
      have hoD := hoA.below hdr
      have hrD := hrA.below hdr
      have hBD := hA.trans (hdr.mono hA.size)
      rw [← hBe] at hbD
      rw [← hBe]
      clear hBe hdr hPA hbk hoA hrA hA y0 y1 y2
      refine wp_region_E (fun W => W.heap[p]? = some (.cells #[v, .slice ao o.length co, .bool force] 67) ∧ W.heap[B]? = some (.cells #[.string u.name, .int .i64 u.old, .int .i64 u.new] 27)) (fun _ => false) (by kernel_rfl) ⟨hPD, hbD⟩ (fun hS => ?_)
      generalize W.drew = W0 at *
      refine wpAnyE.take (i := 0) (v := ?_) rfl (by kernel_rfl) (by kernel_rfl) (by kernel_rfl) (by kernel_rfl) (fun _ _ _ h => h) (Or.inl ⟨by rfl, ?_⟩) (by assumption) ?_
      rotate_left
      · intro w hSw; obtain ⟨z0, z1, z2⟩ := c3_of hSw.1; obtain ⟨z3, z4, z5⟩ := c3_of hSw.2; clear hSw; go_simp; with_reducible rfl
      try simp only [Act.put, List.getElem_toArray, List.getElem_cons_zero, List.setIfInBounds_toArray, List.set_cons_zero, List.set_cons_succ]
      refine wpAnyE.take (i := 1) (v := ?_) rfl (by kernel_rfl) (by kernel_rfl) (by kernel_rfl) (by kernel_rfl) (fun _ _ _ h => h) (Or.inl ⟨by rfl, ?_⟩) (by assumption) ?_
      rotate_left
      · intro w hSw; obtain ⟨z0, z1, z2⟩ := c3_of hSw.1; obtain ⟨z3, z4, z5⟩ := c3_of hSw.2; clear hSw; go_simp; with_reducible rfl
      try simp only [Act.put, List.getElem_toArray, List.getElem_cons_succ, List.getElem_cons_zero, List.setIfInBounds_toArray, List.set_cons_zero, List.set_cons_succ]
      refine wpAnyE.take (i := 2) (v := ?_) rfl (by kernel_rfl) (by kernel_rfl) (by kernel_rfl) (by kernel_rfl) (fun _ _ _ h => h) (Or.inl ⟨by rfl, ?_⟩) (by assumption) ?_
      rotate_left
      · intro w hSw; obtain ⟨z0, z1, z2⟩ := c3_of hSw.1; obtain ⟨z3, z4, z5⟩ := c3_of hSw.2; clear hSw; go_simp; with_reducible rfl
      try simp only [Act.put, List.getElem_toArray, List.getElem_cons_succ, List.getElem_cons_zero, List.setIfInBounds_toArray, List.set_cons_zero, List.set_cons_succ]
      refine wpAnyE.take (i := 3) (v := ?_) rfl (by kernel_rfl) (by kernel_rfl) (by kernel_rfl) (by kernel_rfl) (fun _ _ _ h => h) (Or.inl ⟨by rfl, ?_⟩) (by assumption) ?_
      rotate_left
      · intro w hSw; obtain ⟨z0, z1, z2⟩ := c3_of hSw.1; obtain ⟨z3, z4, z5⟩ := c3_of hSw.2; clear hSw; go_simp; with_reducible rfl
      try simp only [Act.put, List.getElem_toArray, List.getElem_cons_succ, List.getElem_cons_zero, List.setIfInBounds_toArray, List.set_cons_zero, List.set_cons_succ]
      refine wpAnyE.take (i := 4) (v := ?_) rfl (by kernel_rfl) (by kernel_rfl) (by kernel_rfl) (by kernel_rfl) (fun _ _ _ h => h) (Or.inl ⟨by rfl, ?_⟩) (by assumption) ?_
      rotate_left
      · intro w hSw; obtain ⟨z0, z1, z2⟩ := c3_of hSw.1; obtain ⟨z3, z4, z5⟩ := c3_of hSw.2; clear hSw; go_simp; with_reducible rfl
      try simp only [Act.put, List.getElem_toArray, List.getElem_cons_succ, List.getElem_cons_zero, List.setIfInBounds_toArray, List.set_cons_zero, List.set_cons_succ]
      refine wpAnyE.take (i := 5) (v := ?_) rfl (by kernel_rfl) (by kernel_rfl) (by kernel_rfl) (by kernel_rfl) (fun _ _ _ h => h) (Or.inl ⟨by rfl, ?_⟩) (by assumption) ?_
      rotate_left
      · intro w hSw; obtain ⟨z0, z1, z2⟩ := c3_of hSw.1; obtain ⟨z3, z4, z5⟩ := c3_of hSw.2; clear hSw; go_simp; with_reducible rfl
      try simp only [Act.put, List.getElem_toArray, List.getElem_cons_succ, List.getElem_cons_zero, List.setIfInBounds_toArray, List.set_cons_zero, List.set_cons_succ]
      refine wpAnyE.take (i := 6) (v := ?_) rfl (by kernel_rfl) (by kernel_rfl) (by kernel_rfl) (by kernel_rfl) (fun _ _ _ h => h) (Or.inl ⟨by rfl, ?_⟩) (by assumption) ?_
      rotate_left
      · intro w hSw; obtain ⟨z0, z1, z2⟩ := c3_of hSw.1; obtain ⟨z3, z4, z5⟩ := c3_of hSw.2; clear hSw; go_simp; with_reducible rfl
      try simp only [Act.put, List.getElem_toArray, List.getElem_cons_succ, List.getElem_cons_zero, List.setIfInBounds_toArray, List.set_cons_zero, List.set_cons_succ]
      refine wpAnyE.one (i := 7) (by kernel_rfl) rfl (fun K hK => ?_)
      go_simp
      refine (behind_any ao co o u.old u.new W0 hoD hrD hol).mono ?_
      rintro e W1 ⟨rfl, hbc⟩
      have hB1 := hBD.trans (hbc.mono hBD.size)
      have hS1 : W1.heap[p]? = some (.cells #[v, .slice ao o.length co, .bool force] 67) ∧ W1.heap[B]? = some (.cells #[.string u.name, .int .i64 u.old, .int .i64 u.new] 27) := ⟨(hbc.block _ (heap_lt hS.1)).trans hS.1, (hbc.block _ (heap_lt hS.2)).trans hS.2⟩
      clear hbc hS hBD hoD hrD
      refine hK _ _ (fun _ => hS1) ?_
      clear hK K
      try simp only [Act.put, List.getElem_toArray, List.getElem_cons_succ, List.getElem_cons_zero, List.setIfInBounds_toArray, List.set_cons_zero, List.set_cons_succ]
      refine wpAnyE.take (i := 8) (v := ?_) rfl (by kernel_rfl) (by kernel_rfl) (by kernel_rfl) (by kernel_rfl) (fun _ _ _ h => h) (Or.inl ⟨by rfl, ?_⟩) (by assumption) ?_
      rotate_left
      · intro w hSw; go_simp; with_reducible rfl
      try simp only [Act.put, List.getElem_toArray, List.getElem_cons_succ, List.getElem_cons_zero, List.setIfInBounds_toArray, List.set_cons_zero, List.set_cons_succ]
      refine wpAnyE.take (i := 9) (v := ?_) rfl (by kernel_rfl) (by kernel_rfl) (by kernel_rfl) (by kernel_rfl) (fun _ _ _ h => h) (Or.inl ⟨by rfl, ?_⟩) (by assumption) ?_
      rotate_left
      · intro w hSw; go_simp; with_reducible rfl
      try simp only [Act.put, List.getElem_toArray, List.getElem_cons_succ, List.getElem_cons_zero, List.setIfInBounds_toArray, List.set_cons_zero, List.set_cons_succ]
      refine wpAnyE.take (i := 10) (v := ?_) rfl (by kernel_rfl) (by kernel_rfl) (by kernel_rfl) (by kernel_rfl) (fun _ _ _ h => h) (Or.inl ⟨by rfl, ?_⟩) (by assumption) ?_
      rotate_left
      · intro w hSw; go_simp; with_reducible rfl
      try simp only [Act.put, List.getElem_toArray, List.getElem_cons_succ, List.getElem_cons_zero, List.setIfInBounds_toArray, List.set_cons_zero, List.set_cons_succ]
      refine wpAnyE.take (i := 11) (v := ?_) rfl (by kernel_rfl) (by kernel_rfl) (by kernel_rfl) (by kernel_rfl) (fun _ _ _ h => h) (Or.inl ⟨by rfl, ?_⟩) (by assumption) ?_
      rotate_left
      · intro w hSw; go_simp; with_reducible rfl
      try simp only [Act.put, List.getElem_toArray, List.getElem_cons_succ, List.getElem_cons_zero, List.setIfInBounds_toArray, List.set_cons_zero, List.set_cons_succ]
      refine wpAnyE.take (i := 12) (v := ?_) rfl (by kernel_rfl) (by kernel_rfl) (by kernel_rfl) (by kernel_rfl) (fun _ _ _ h => h) (Or.inl ⟨by rfl, ?_⟩) (by assumption) ?_
      rotate_left
      · intro w hSw; go_simp; with_reducible rfl
      try simp only [Act.put, List.getElem_toArray, List.getElem_cons_succ, List.getElem_cons_zero, List.setIfInBounds_toArray, List.set_cons_zero, List.set_cons_succ]
      refine wpAnyE.done (by kernel_rfl) ?_
      obtain ⟨z0, z1, z2⟩ := c3_of hS1.1
      clear hS1 hPD hbD
      by_cases k1 : behindE o u.old u.new = 0
      case neg =>
        have HR : Hid (mayE o force u = behindE o u.old u.new) := by unfold Hid; rw [HMo.out, if_pos k1]
        have q1 : (behindE o u.old u.new == 0) = false := by simpa using k1
        clear k1
        go_wp2
        go_ret
        exact ⟨ret_int HR.out.symm, hB1⟩
      have HM2 : Hid (mayE o force u = if behindB o u.old u.new || force then 0 else 4) := by unfold Hid; rw [HMo.out, if_neg (fun e => e k1)]
      rw [k1]
      clear k1 HMo
      cases k2 : behindB o u.old u.new with
      | true =>
        have HR : Hid (mayE o force u = 0) := by unfold Hid; rw [HM2.out, k2]; rfl
        clear k2
        go_wp2
        go_ret
        exact ⟨ret_int HR.out.symm, hB1⟩
      | false =>
        cases force with
        | true =>
          have HR : Hid (mayE o true u = 0) := by unfold Hid; rw [HM2.out, k2]; rfl
          clear k2
          go_wp2
          go_ret
          exact ⟨ret_int HR.out.symm, hB1⟩
        | false =>
          have HR : Hid (mayE o false u = 4) := by unfold Hid; rw [HM2.out, k2]; rfl
          clear k2
          go_wp2
          go_ret
          exact ⟨ret_int HR.out.symm, hB1⟩
  cases hb : (u.old == 0) with
  | true => exact main u.new true hb (by rw [if_pos (by simpa using hb)]) rfl
  | false => exact main u.old false hb (by rw [if_neg (by simpa using hb)]) rfl

set_option maxHeartbeats 4000000 in
theorem follow_any (base p : Nat) (v : Value) (l : List Rf) (ao : Option Addr) (co : Nat) (o : List Ob) (force : Bool) (u : Up) (w : World) (hg : Glob w) (hB : Board base w p v l (.slice ao o.length co) (.bool force)) (hS : SortR l) (hl : l.length ≤ 11) (ho : HoldsS w ao o) (hroom : Room w ao o) (hol : o.length ≤ 9223372036854775807) :
    Calls Tryz.prog 29 #[.pointer (some ⟨p, 0, none⟩), u.val] w fun e w' => e = .returned (.int .i64 (followE o force l u)) ∧ (followE o force l u = 0 → ∃ v', Board base w' p v' (changeL l u.name u.new) (.slice ao o.length co) (.bool force)) ∧ Below base w w' := by
  have hA := below_alloc w (.cells #[.string u.name, .int .i64 u.old, .int .i64 u.new] 27)
  have hbk := heap_alloc_new w (.cells #[.string u.name, .int .i64 u.old, .int .i64 u.new] 27)
  have hBle : base ≤ w.heap.size := Nat.le_of_lt (Nat.lt_of_le_of_lt hB.le hB.lt)
  have BA := hB.below hA
  have hgA := hg.below hA
  have hoA := ho.below hA
  have hrA := hroom.below hA
  have hAb := hA.mono hBle
  have HS : Hid (SortR l) := hS
  have HF : Hid (followE o force l u = if getI l u.name ≠ u.old then 4 else if u.new = 0 then 0 else mayE o force u) := rfl
  obtain ⟨a, c, hv, hh⟩ := ownR_reads BA.own
  subst hv
  clear hS hB ho hroom hg
  go_enter Tryz.func29, Tryz.ntmps29
  go_wp2_with fail
  generalize w.alloc (.cells #[.string u.name, .int .i64 u.old, .int .i64 u.new] 27) = W at *
  obtain ⟨B, hBe⟩ : ∃ B, B = w.heap.size := ⟨_, rfl⟩
  have hdr := (Below.refl W.heap.size W).drew
  have BD := BA.below hdr
  have hbD := (hdr.block _ (heap_lt hbk)).trans hbk
  have hoD := hoA.below hdr
  have hrD := hrA.below hdr
  have hgD := hgA.below hdr
  have hhD := hh.below hdr
  have hBD := hAb.trans (hdr.mono (Nat.le_of_lt (Nat.lt_of_le_of_lt BA.le BA.lt)))
  rw [← hBe] at hbD
  rw [← hBe]
  clear hBe hdr BA hbk hoA hrA hA hAb hgA hh hBle
  refine wp_region_E (fun W => W.heap[p]? = some (.cells #[.slice a l.length c, .slice ao o.length co, .bool force] 67) ∧ W.heap[B]? = some (.cells #[.string u.name, .int .i64 u.old, .int .i64 u.new] 27)) (fun _ => false) (by kernel_rfl) ⟨BD.blk, hbD⟩ (fun hS => ?_)
  generalize W.drew = W0 at *
  refine wpAnyE.take (i := 0) (v := ?_) rfl (by kernel_rfl) (by kernel_rfl) (by kernel_rfl) (by kernel_rfl) (fun _ _ _ h => h) (Or.inl ⟨by rfl, ?_⟩) (by assumption) ?_
  rotate_left
  · intro w hSw; obtain ⟨z0, z1, z2⟩ := c3_of hSw.1; obtain ⟨z3, z4, z5⟩ := c3_of hSw.2; clear hSw; go_simp; with_reducible rfl
  try simp only [Act.put, List.getElem_toArray, List.getElem_cons_zero, List.setIfInBounds_toArray, List.set_cons_zero, List.set_cons_succ]
  refine wpAnyE.take (i := 1) (v := ?_) rfl (by kernel_rfl) (by kernel_rfl) (by kernel_rfl) (by kernel_rfl) (fun _ _ _ h => h) (Or.inl ⟨by rfl, ?_⟩) (by assumption) ?_
  rotate_left
  · intro w hSw; obtain ⟨z0, z1, z2⟩ := c3_of hSw.1; obtain ⟨z3, z4, z5⟩ := c3_of hSw.2; clear hSw; go_simp; with_reducible rfl
  try simp only [Act.put, List.getElem_toArray, List.getElem_cons_succ, List.getElem_cons_zero, List.setIfInBounds_toArray, List.set_cons_zero, List.set_cons_succ]
  refine wpAnyE.take (i := 2) (v := ?_) rfl (by kernel_rfl) (by kernel_rfl) (by kernel_rfl) (by kernel_rfl) (fun _ _ _ h => h) (Or.inl ⟨by rfl, ?_⟩) (by assumption) ?_
  rotate_left
  · intro w hSw; obtain ⟨z0, z1, z2⟩ := c3_of hSw.1; obtain ⟨z3, z4, z5⟩ := c3_of hSw.2; clear hSw; go_simp; with_reducible rfl
  try simp only [Act.put, List.getElem_toArray, List.getElem_cons_succ, List.getElem_cons_zero, List.setIfInBounds_toArray, List.set_cons_zero, List.set_cons_succ]
  refine wpAnyE.take (i := 3) (v := ?_) rfl (by kernel_rfl) (by kernel_rfl) (by kernel_rfl) (by kernel_rfl) (fun _ _ _ h => h) (Or.inl ⟨by rfl, ?_⟩) (by assumption) ?_
  rotate_left
  · intro w hSw; obtain ⟨z0, z1, z2⟩ := c3_of hSw.1; obtain ⟨z3, z4, z5⟩ := c3_of hSw.2; clear hSw; go_simp; with_reducible rfl
  try simp only [Act.put, List.getElem_toArray, List.getElem_cons_succ, List.getElem_cons_zero, List.setIfInBounds_toArray, List.set_cons_zero, List.set_cons_succ]
  refine wpAnyE.take (i := 4) (v := ?_) rfl (by kernel_rfl) (by kernel_rfl) (by kernel_rfl) (by kernel_rfl) (fun _ _ _ h => h) (Or.inl ⟨by rfl, ?_⟩) (by assumption) ?_
  rotate_left
  · intro w hSw; obtain ⟨z0, z1, z2⟩ := c3_of hSw.1; obtain ⟨z3, z4, z5⟩ := c3_of hSw.2; clear hSw; go_simp; with_reducible rfl
  try simp only [Act.put, List.getElem_toArray, List.getElem_cons_succ, List.getElem_cons_zero, List.setIfInBounds_toArray, List.set_cons_zero, List.set_cons_succ]
  refine wpAnyE.take (i := 5) (v := ?_) rfl (by kernel_rfl) (by kernel_rfl) (by kernel_rfl) (by kernel_rfl) (fun _ _ _ h => h) (Or.inl ⟨by rfl, ?_⟩) (by assumption) ?_
  rotate_left
  · intro w hSw; obtain ⟨z0, z1, z2⟩ := c3_of hSw.1; obtain ⟨z3, z4, z5⟩ := c3_of hSw.2; clear hSw; go_simp; with_reducible rfl
  try simp only [Act.put, List.getElem_toArray, List.getElem_cons_succ, List.getElem_cons_zero, List.setIfInBounds_toArray, List.set_cons_zero, List.set_cons_succ]
  refine wpAnyE.one (i := 6) (by kernel_rfl) rfl (fun K hK => ?_)
  go_simp
  refine (get_any a c l u.name W0 hgD hhD (by omega)).mono ?_
  rintro e W1 ⟨rfl, hbc⟩
  have B1 := BD.below hbc
  have hbk1 := (hbc.block _ (heap_lt hbD)).trans hbD
  have hS1 : W1.heap[p]? = some (.cells #[.slice a l.length c, .slice ao o.length co, .bool force] 67) ∧ W1.heap[B]? = some (.cells #[.string u.name, .int .i64 u.old, .int .i64 u.new] 27) := ⟨B1.blk, hbk1⟩
  have ho1 := hoD.below hbc
  have hr1 := hrD.below hbc
  have hBw1 := hBD.trans (hbc.mono (Nat.le_of_lt (Nat.lt_of_le_of_lt BD.le BD.lt)))
  clear hbc hS hBD hoD hrD BD hbD hgD hhD
  refine hK _ _ (fun _ => hS1) ?_
  clear hK K
  try simp only [Act.put, List.getElem_toArray, List.getElem_cons_succ, List.getElem_cons_zero, List.setIfInBounds_toArray, List.set_cons_zero, List.set_cons_succ]
  refine wpAnyE.take (i := 7) (v := ?_) rfl (by kernel_rfl) (by kernel_rfl) (by kernel_rfl) (by kernel_rfl) (fun _ _ _ h => h) (Or.inl ⟨by rfl, ?_⟩) (by assumption) ?_
  rotate_left
  · intro w hSw; go_simp; with_reducible rfl
  try simp only [Act.put, List.getElem_toArray, List.getElem_cons_succ, List.getElem_cons_zero, List.setIfInBounds_toArray, List.set_cons_zero, List.set_cons_succ]
  refine wpAnyE.take (i := 8) (v := ?_) rfl (by kernel_rfl) (by kernel_rfl) (by kernel_rfl) (by kernel_rfl) (fun _ _ _ h => h) (Or.inl ⟨by rfl, ?_⟩) (by assumption) ?_
  rotate_left
  · intro w hSw; go_simp; with_reducible rfl
  try simp only [Act.put, List.getElem_toArray, List.getElem_cons_succ, List.getElem_cons_zero, List.setIfInBounds_toArray, List.set_cons_zero, List.set_cons_succ]
  refine wpAnyE.take (i := 9) (v := ?_) rfl (by kernel_rfl) (by kernel_rfl) (by kernel_rfl) (by kernel_rfl) (fun _ _ _ h => h) (Or.inl ⟨by rfl, ?_⟩) (by assumption) ?_
  rotate_left
  · intro w hSw; go_simp; with_reducible rfl
  try simp only [Act.put, List.getElem_toArray, List.getElem_cons_succ, List.getElem_cons_zero, List.setIfInBounds_toArray, List.set_cons_zero, List.set_cons_succ]
  refine wpAnyE.take (i := 10) (v := ?_) rfl (by kernel_rfl) (by kernel_rfl) (by kernel_rfl) (by kernel_rfl) (fun _ _ _ h => h) (Or.inl ⟨by rfl, ?_⟩) (by assumption) ?_
  rotate_left
  · intro w hSw; go_simp; with_reducible rfl
  try simp only [Act.put, List.getElem_toArray, List.getElem_cons_succ, List.getElem_cons_zero, List.setIfInBounds_toArray, List.set_cons_zero, List.set_cons_succ]
  refine wpAnyE.take (i := 11) (v := ?_) rfl (by kernel_rfl) (by kernel_rfl) (by kernel_rfl) (by kernel_rfl) (fun _ _ _ h => h) (Or.inl ⟨by rfl, ?_⟩) (by assumption) ?_
  rotate_left
  · intro w hSw; go_simp; with_reducible rfl
  try simp only [Act.put, List.getElem_toArray, List.getElem_cons_succ, List.getElem_cons_zero, List.setIfInBounds_toArray, List.set_cons_zero, List.set_cons_succ]
  refine wpAnyE.done (by kernel_rfl) ?_
  clear hS1
  obtain ⟨y0, y1, y2⟩ := c3_of hbk1
  by_cases k1 : getI l u.name = u.old
  case neg =>
    have HR : Hid (followE o force l u = 4) := by unfold Hid; rw [HF.out, if_pos k1]
    have q1 : (getI l u.name != u.old) = true := by simpa using k1
    clear k1
    go_wp2
    go_ret
    exact ⟨ret_int HR.out.symm, (fun e => by rw [HR.out] at e; cases e), hBw1⟩
  have HF1 : Hid (followE o force l u = if u.new = 0 then 0 else mayE o force u) := by unfold Hid; rw [HF.out, if_neg (fun e => e k1)]
  rw [k1]
  clear k1 HF
  by_cases k2 : u.new = 0
  · have HR : Hid (followE o force l u = 0) := by unfold Hid; rw [HF1.out, if_pos k2]
    have q1 : (u.new != 0) = false := by simp [k2]
    have hch := change_any base p _ l _ _ u.name u.new W1 B1 HS.out hl
    clear k2
    go_wp2_with fail
    refine hch.mono ?_
    clear hch
    rintro e W2 ⟨rfl, hbb, hb2⟩
    have hBw2 := hBw1.trans hb2
    clear hb2 hBw1 B1 hbk1 y0 y1 y2 ho1 hr1
    go_wp2
    go_ret
    exact ⟨ret_int HR.out.symm, fun _ => hbb, hBw2⟩
  have HF2 : Hid (followE o force l u = mayE o force u) := by unfold Hid; rw [HF1.out, if_neg k2]
  have q1 : (u.new != 0) = true := by simpa using k2
  have hmb := mayBecome_any p _ ao co o force u W1 B1.blk ho1 hr1 hol
  clear k2 HF1
  go_wp2_with fail
  refine hmb.mono ?_
  clear hmb
  rintro e W2 ⟨rfl, hb2⟩
  have B2 := B1.below hb2
  have hbk2 := (hb2.block _ (heap_lt hbk1)).trans hbk1
  have hBw2 := hBw1.trans (hb2.mono (Nat.le_of_lt (Nat.lt_of_le_of_lt B1.le B1.lt)))
  clear hb2 B1 hbk1 hBw1 y0 y1 y2 ho1 hr1
  obtain ⟨y0, y1, y2⟩ := c3_of hbk2
  by_cases k3 : mayE o force u = 0
  case neg =>
    have q3 : (mayE o force u != 0) = true := by simpa using k3
    have HN : Hid (mayE o force u ≠ 0) := k3
    clear k3
    go_wp2
    go_ret
    exact ⟨ret_int HF2.out.symm, (fun e => absurd (HF2.out.symm.trans e) HN.out), hBw2⟩
  have HR : Hid (followE o force l u = 0) := HF2.out.trans k3
  rw [k3]
  clear k3 HF2
  have hch := change_any base p _ l _ _ u.name u.new W2 B2 HS.out hl
  go_wp2_with fail
  refine hch.mono ?_
  clear hch
  rintro e W3 ⟨rfl, hbb, hb3⟩
  have hBw3 := hBw2.trans hb3
  clear hb3 hBw2 B2 hbk2 y0 y1 y2
  go_wp2
  go_ret
  exact ⟨ret_int HR.out.symm, fun _ => hbb, hBw3⟩

theorem er_bad {o : List Ob} {force : Bool} {L0 L : List Rf} {m : List Up} {k : Nat} (hk : k < m.length) (H : runE o force L0 m = runE o force L (m.drop k) ∧ runL L0 m = runL L (m.drop k)) (h : followE o force L m[k] ≠ 0) : runE o force L0 m = followE o force L m[k] := by
  rw [H.1, List.drop_eq_getElem_cons hk, runE, if_pos h]
theorem er_next {o : List Ob} {force : Bool} {L0 L : List Rf} {m : List Up} {k : Nat} (hk : k < m.length) (H : runE o force L0 m = runE o force L (m.drop k) ∧ runL L0 m = runL L (m.drop k)) (h : followE o force L m[k] = 0) :
    runE o force L0 m = runE o force (changeL L m[k].name m[k].new) (m.drop (k + 1)) ∧ runL L0 m = runL (changeL L m[k].name m[k].new) (m.drop (k + 1)) := by
  rw [H.1, H.2, List.drop_eq_getElem_cons hk, runE, runL, if_neg (fun e => e h)]
  exact ⟨rfl, rfl⟩
theorem er_end {o : List Ob} {force : Bool} {L0 L : List Rf} {m : List Up} {k : Nat} (hk : ¬ k < m.length) (H : runE o force L0 m = runE o force L (m.drop k) ∧ runL L0 m = runL L (m.drop k)) : runE o force L0 m = 0 ∧ runL L0 m = L := by
  rw [H.1, H.2, List.drop_of_length_le (by omega)]; exact ⟨rfl, rfl⟩

set_option maxHeartbeats 1000000 in
theorem each_follow (a : Option Addr) (c : Nat) (us : List Up) (L0 : List Rf) (p : Nat) (v0 : Value) (ao : Option Addr) (co : Nat) (o : List Ob) (force : Bool) (w0 w : World) (hg : Glob w0) (h : HoldsU w0 a us) (ho : HoldsS w0 ao o) (hroom : Room w0 ao o) (hol : o.length ≤ 9223372036854775807) (hB : Below w0.heap.size w0 w) (B0 : Board w0.heap.size w p v0 L0 (.slice ao o.length co) (.bool force)) (hS0 : SortR L0)
    (hl : L0.length + us.length ≤ 12) :
    Calls Tryz.prog 28 #[.slice a us.length c, .func (.func 29) #[.pointer (some ⟨p, 0, none⟩)] #[]] w fun e w' => e = .returned (.int .i64 (runE o force L0 us)) ∧ (runE o force L0 us = 0 → ∃ v', Board w0.heap.size w' p v' (runL L0 us) (.slice ao o.length co) (.bool force)) ∧ Below w0.heap.size w0 w' := by
  have hl' : us.length ≤ 9223372036854775807 := by omega
  go_enter Tryz.func28, Tryz.ntmps28
  go_wp2
  go_loopw [10] (fun i wr => ∃ (k : Nat) (v : Value) (L : List Rf), i = .int .i64 k ∧ k ≤ us.length ∧ Hid (SortR L) ∧ L.length ≤ L0.length + k ∧ Board w0.heap.size wr p v L (.slice ao o.length co) (.bool force) ∧ Below w0.heap.size w0 wr ∧ Hid (runE o force L0 us = runE o force L (us.drop k) ∧ runL L0 us = runL L (us.drop k))) (fun i _ => us.length - (intOf i).toNat)
  case atStart => exact ⟨0, v0, L0, rfl, Nat.zero_le _, hS0, by omega, B0, hB, rfl, rfl⟩
  case round =>
    clear B0 hS0
    obtain ⟨k, v, L, rfl, hk, HL, hLk, BH, hBr, H⟩ := hrel
    by_cases hlt : k < us.length
    · obtain ⟨b, off, rfl, hb, hc⟩ := (h.below hBr) k hlt
      obtain ⟨y0, y1, y2⟩ := hc k hlt
      clear hc
      have hA := below_alloc wr (.cells #[.string us[k].name, .int .i64 us[k].old, .int .i64 us[k].new] 27)
      have hBA := hBr.trans (hA.mono hBr.size)
      have hfo := follow_any w0.heap.size p v L ao co o force us[k] _ (hg.below hBA) (BH.below hA) HL.out (by omega) (ho.below hBA) (hroom.below hBA) hol
      go_wp2_with fail
      refine hfo.mono ?_
      clear hfo
      rintro e w1 ⟨rfl, hbb, hb1⟩
      have hB1 := hBA.trans hb1
      have HLl : Hid ((changeL L us[k].name us[k].new).length ≤ L0.length + (k + 1)) := by have := change_length L us[k].name us[k].new; unfold Hid; omega
      have HSl : Hid (SortR (changeL L us[k].name us[k].new)) := change_sort HL.out _ _
      clear hb1 hA y0 y1 y2 hBr BH hBA
      by_cases hz : followE o force L us[k] = 0
      · have HN : Hid (_ ∧ _) := er_next hlt H.out hz
        obtain ⟨v', B1⟩ := hbb hz
        rw [hz]
        clear hz
        go_wp2
        go_roundw
        case rel => exact ⟨k + 1, v', _, by go_num, by omega, HSl, HLl.out, B1, hB1, HN⟩
        case measure => simp [intOf]; omega
      · have HR : Hid (runE o force L0 us = followE o force L us[k]) := er_bad hlt H.out hz
        have HZ : Hid (¬ followE o force L us[k] = 0) := hz
        have hz' : (followE o force L us[k] != 0) = true := by simpa using hz
        clear hz hbb
        go_wp2
        go_ret
        exact ⟨ret_int HR.out.symm, fun e => absurd (HR.out.symm.trans e) HZ.out, hB1⟩
    · have HR : Hid (runE o force L0 us = 0 ∧ runL L0 us = L) := er_end hlt H.out
      go_wp2
      go_ret
      exact ⟨ret_int HR.out.1.symm, fun _ => ⟨v, by rw [HR.out.2]; exact BH⟩, hBr⟩

theorem holdsR_nil {w : World} {l : List Rf} (h : HoldsR w none l) : l = [] := by
  cases l with
  | nil => rfl
  | cons x l => obtain ⟨b, off, e, _⟩ := h 0 (by simp); cases e

set_option maxHeartbeats 1000000 in
theorem newBoard_any (a : Option Addr) (c : Nat) (l : List Rf) (x1 : Value) (force : Bool) (hx1 : ∃ g n c, x1 = .slice g n c) (w : World) (h : HoldsR w a l) (hl : l.length ≤ 900) :
    Calls Tryz.prog 27 #[.slice a l.length c, x1, .bool force] w fun e w' => ∃ p v, e = .returned (.pointer (some ⟨p, 0, none⟩)) ∧ Board w.heap.size w' p v l x1 (.bool force) ∧ Below w.heap.size w w' := by
  obtain ⟨g1, n1, c1, rfl⟩ := hx1
  go_enter Tryz.func27, Tryz.ntmps27
  go_wp2_with fail
  refine (cloneR_any a c l w h hl (fun e => by subst e; exact holdsR_nil h)).mono ?_
  rintro e w1 ⟨v', rfl, o1, hb1⟩
  obtain ⟨a1, m1, cc1, rfl⟩ := own_slice_g o1
  have hA := below_alloc w1 (.cells #[.slice a1 m1 cc1, .slice g1 n1 c1, .bool force] 67)
  have HF : Hid (Board w.heap.size (w1.alloc (.cells #[.slice a1 m1 cc1, .slice g1 n1 c1, .bool force] 67)) w1.heap.size (.slice a1 m1 cc1) l (.slice g1 n1 c1) (.bool force) ∧ Below w.heap.size w (w1.alloc (.cells #[.slice a1 m1 cc1, .slice g1 n1 c1, .bool force] 67))) :=
    ⟨⟨heap_alloc_new w1 _, hb1.size, ownsRow_kept o1 (fun g hg => hA.block g (o1.lt g hg).2), fun e => by have := (o1.lt _ e).2; omega⟩, hb1.trans (hA.mono hb1.size)⟩
  clear o1 hb1 hA h
  go_wp2
  go_ret
  exact ⟨_, _, rfl, HF.out.1, HF.out.2⟩

/-- what Apply hands back. -/
def ApplyPost (l : List Rf) (o : List Ob) (us : List Up) (force : Bool) (w : World) (e : Ending) (w' : World) : Prop :=
  Below w.heap.size w w' ∧ ((applyE l o us force ≠ 0 ∧ e = .returned (.tuple #[.slice none 0 0, .int .i64 (applyE l o us force)])) ∨
    (applyE l o us force = 0 ∧ ∃ a' c', e = .returned (.tuple #[.slice a' (runL l us).length c', .int .i64 0]) ∧ HoldsR w' a' (runL l us) ∧ (runL l us).length ≤ c'))
theorem ApplyPost.bad {l : List Rf} {o : List Ob} {us : List Up} {force : Bool} {w w' : World} {r : Int} (hr : applyE l o us force = r) (h0 : r ≠ 0) (hb : Below w.heap.size w w') : ApplyPost l o us force w (.returned (.tuple #[.slice none 0 0, .int .i64 r])) w' :=
  ⟨hb, .inl ⟨by rw [hr]; exact h0, by rw [hr]⟩⟩
theorem ownR_reads' {w : World} {base : Nat} {v : Value} {xs : List Rf} (h : w.ownsRow base 38 2 v xs.length (rowR xs)) : ∃ a c, v = .slice a xs.length c ∧ HoldsR w a xs ∧ xs.length ≤ c := by
  obtain ⟨a, c, hv, hh⟩ := ownR_reads h
  refine ⟨a, c, hv, hh, ?_⟩
  rcases h.2 with ⟨e, e2⟩ | ⟨g, cap, cur, e, _, _, h3, _⟩
  · omega
  · rw [hv] at e; cases e; exact h3

set_option maxHeartbeats 2000000 in
theorem apply_any (a : Option Addr) (c : Nat) (l : List Rf) (ao : Option Addr) (co : Nat) (o : List Ob) (au : Option Addr) (cu : Nat) (us : List Up) (force : Bool) (w : World) (hg : Glob w) (h : HoldsR w a l) (hl : l.length ≤ 9223372036854775807) (ho : HoldsS w ao o) (hroom : Room w ao o) (hol : o.length ≤ 9223372036854775807) (hu : HoldsU w au us) (hul : us.length ≤ 9223372036854775807) :
    Calls Tryz.prog 9 #[.slice a l.length c, .slice ao o.length co, .slice au us.length cu, .bool force] w (ApplyPost l o us force w) := by
  have hmf : ∀ (fn : Fn) (first cap : Array Value) (w : World), (Instr.makeFunc fn first cap).run Tryz.prog w = .ok (.func fn first cap) w := fun _ _ _ _ => rfl
  have HE : Hid (applyE l o us force = if refsE l o ≠ 0 then refsE l o else if checkU us ≠ 0 then checkU us else if runE o force l us ≠ 0 then runE o force l us else refsE (runL l us) o) := rfl
  go_enter Tryz.func9, Tryz.ntmps9
  go_wp2_with fail
  refine (refsCheck_any a c l ao co o w hg h hl ho hol).mono ?_
  rintro e w1 ⟨rfl, hb1⟩
  by_cases k1 : refsE l o = 0
  case neg =>
    have HR : Hid (applyE l o us force = refsE l o) := by unfold Hid; rw [HE.out, if_pos k1]
    have HF : Hid (ApplyPost l o us force w (.returned (.tuple #[.slice none 0 0, .int .i64 (refsE l o)])) w1) := ApplyPost.bad HR.out k1 hb1
    have z1 : (refsE l o != 0) = true := by simpa using k1
    clear k1
    go_wp2
    refine bodyPost_ret (v := .tuple #[.slice none 0 0, .int .i64 (refsE l o)]) (by simp [results, Tryz.results9, go_sem]) rfl ?_
    exact HF.out
  have HE1 : Hid (applyE l o us force = if checkU us ≠ 0 then checkU us else if runE o force l us ≠ 0 then runE o force l us else refsE (runL l us) o) := by unfold Hid; rw [HE.out, if_neg (fun e => e k1)]
  have h8 : l.length ≤ 8 := (refsE_iff.1 k1).2.1
  have HS : Hid (SortR l) := refs_sort k1
  rw [k1]
  clear k1 HE
  go_wp2_with fail
  refine (ucheck_any au cu us w1 (hg.below hb1) (hu.below hb1) hul).mono ?_
  rintro e w2 ⟨rfl, hb2⟩
  have hB2 := hb1.trans (hb2.mono hb1.size)
  clear hb1 hb2
  by_cases k2 : checkU us = 0
  case neg =>
    have HR : Hid (applyE l o us force = checkU us) := by unfold Hid; rw [HE1.out, if_pos k2]
    have HF : Hid (ApplyPost l o us force w (.returned (.tuple #[.slice none 0 0, .int .i64 (checkU us)])) w2) := ApplyPost.bad HR.out k2 hB2
    have z1 : (checkU us != 0) = true := by simpa using k2
    clear k2
    go_wp2
    refine bodyPost_ret (v := .tuple #[.slice none 0 0, .int .i64 (checkU us)]) (by simp [results, Tryz.results9, go_sem]) rfl ?_
    exact HF.out
  have HE2 : Hid (applyE l o us force = if runE o force l us ≠ 0 then runE o force l us else refsE (runL l us) o) := by unfold Hid; rw [HE1.out, if_neg (fun e => e k2)]
  have h4 : us.length ≤ 4 := (checkU_iff.1 k2).2.1
  rw [k2]
  clear k2 HE1
  go_wp2_with fail
  refine (newBoard_any a c l (.slice ao o.length co) force ⟨_, _, _, rfl⟩ w2 (h.below hB2) (by omega)).mono ?_
  rintro e w3 ⟨p, v, rfl, B3, hb3⟩
  have hef := each_follow au cu us l p v ao co o force w2 w3 (hg.below hB2) (hu.below hB2) (ho.below hB2) (hroom.below hB2) hol hb3 B3 HS.out (by omega)
  clear B3 hb3
  go_wp2_with fail
  refine hef.mono ?_
  clear hef
  rintro e w4 ⟨rfl, hbb, hb4⟩
  have hB4 := hB2.trans (hb4.mono hB2.size)
  clear hb4
  by_cases k3 : runE o force l us = 0
  case neg =>
    have HR : Hid (applyE l o us force = runE o force l us) := by unfold Hid; rw [HE2.out, if_pos k3]
    have HF : Hid (ApplyPost l o us force w (.returned (.tuple #[.slice none 0 0, .int .i64 (runE o force l us)])) w4) := ApplyPost.bad HR.out k3 hB4
    have z1 : (runE o force l us != 0) = true := by simpa using k3
    clear k3 hbb hB2
    go_wp2
    refine bodyPost_ret (v := .tuple #[.slice none 0 0, .int .i64 (runE o force l us)]) (by simp [results, Tryz.results9, go_sem]) rfl ?_
    exact HF.out
  have HE3 : Hid (applyE l o us force = refsE (runL l us) o) := by unfold Hid; rw [HE2.out, if_neg (fun e => e k3)]
  obtain ⟨v4, B4⟩ := hbb k3
  have hR : (runL l us).length ≤ 9223372036854775807 := by have := runL_length us l; omega
  rw [k3]
  clear k3 HE2 hbb hB2
  obtain ⟨a4, c4, hv, hh, hlc⟩ := ownR_reads' B4.own
  subst hv
  obtain ⟨y0, y1, y2⟩ := c3_of B4.blk
  have hrc := refsCheck_any a4 c4 (runL l us) ao co o w4 (hg.below hB4) hh hR (ho.below hB4) hol
  go_wp2_with fail
  refine hrc.mono ?_
  clear hrc
  rintro e w5 ⟨rfl, hb5⟩
  have hB5 := hB4.trans (hb5.mono hB4.size)
  have hh5 := hh.below hb5
  have x0 := (hb5.cell (p := ⟨p, 0, none⟩) B4.lt).trans y0
  clear hb5 hB4 hh B4 y0 y1 y2
  by_cases k4 : refsE (runL l us) o = 0
  case neg =>
    have HF : Hid (ApplyPost l o us force w (.returned (.tuple #[.slice none 0 0, .int .i64 (refsE (runL l us) o)])) w5) := ApplyPost.bad HE3.out k4 hB5
    have z1 : (refsE (runL l us) o != 0) = true := by simpa using k4
    clear k4
    go_wp2
    refine bodyPost_ret (v := .tuple #[.slice none 0 0, .int .i64 (refsE (runL l us) o)]) (by simp [results, Tryz.results9, go_sem]) rfl ?_
    exact HF.out
  have HF : Hid (ApplyPost l o us force w (.returned (.tuple #[.slice a4 (runL l us).length c4, .int .i64 0])) w5) := ⟨hB5, .inr ⟨HE3.out.trans k4, a4, c4, rfl, hh5, hlc⟩⟩
  rw [k4]
  clear k4 HE3 hh5
  go_wp2
  refine bodyPost_ret (v := .tuple #[.slice a4 (runL l us).length c4, .int .i64 0]) (by simp [results, Tryz.results9, go_sem]) rfl ?_
  exact HF.out
end

section
open Go.RowKit
set_option maxRecDepth 100000

theorem digits_len : ∀ i, i < 100 → (Lib.decDigits i).length ≤ 2 := by decide +kernel
theorem words_len {u : Up} (h : RightU u) : (Lib.join (wordsOf u) [32]).length ≤ 100 := by
  have h1 := nameE_size h.name
  have h2 := digits_len u.old.toNat (by have := h.o1; omega)
  have h3 := digits_len u.new.toNat (by have := h.n1; omega)
  have h4 : u.name.data.toList.length = u.name.size := by rw [Array.length_toList]; rfl
  simp [Lib.join, wordsOf]
  have h5 : u.name.data.size = u.name.size := rfl
  omega
theorem sent_size {u : Up} (h : RightU u) : (sentOf u).size ≤ 101 := by
  have := words_len h
  unfold sentOf
  rw [ByteArray.size_append]
  have e : (⟨(Lib.join (wordsOf u) [32]).toArray⟩ : ByteArray).size = (Lib.join (wordsOf u) [32]).length := by simp [ByteArray.size]
  rw [e]
  show _ + 1 ≤ 101
  omega

set_option maxHeartbeats 1000000 in
theorem sentence_any (u : Up) (hR : RightU u) (b : Nat) (w : World) (hb : w.heap[b]? = some (.cells #[.string u.name, .string ⟨(Lib.decDigits u.old.toNat).toArray⟩, .string ⟨(Lib.decDigits u.new.toNat).toArray⟩] 9)) :
    Calls Tryz.prog 34 #[.slice (some ⟨b, 0, none⟩) 3 3] w fun e w' => e = .returned (.string (sentOf u)) ∧ Below w.heap.size w w' := by
  obtain ⟨c0, c1, c2⟩ := c3_of hb
  have hw := words_len hR
  have hj := Tryz.strings_Join b 0 3 [u.name, ⟨(Lib.decDigits u.old.toNat).toArray⟩, ⟨(Lib.decDigits u.new.toNat).toArray⟩] ⟨#[32]⟩ w (fun j x hx => by
      match j, hx with
      | 0, hx => cases hx; exact c0
      | 1, hx => cases hx; exact c1
      | 2, hx => cases hx; exact c2
      | j + 3, hx => simp at hx) (heap_lt hb) (by simp) (by simp) (by
      have e : ([u.name, ⟨(Lib.decDigits u.old.toNat).toArray⟩, ⟨(Lib.decDigits u.new.toNat).toArray⟩].map (·.data.toList)) = wordsOf u := by simp [wordsOf]
      rw [e]; show (Lib.join (wordsOf u) [32]).length ≤ _; omega)
  have e : ([u.name, ⟨(Lib.decDigits u.old.toNat).toArray⟩, ⟨(Lib.decDigits u.new.toNat).toArray⟩].map (·.data.toList)) = wordsOf u := by simp [wordsOf]
  rw [e] at hj
  have hj' : Calls Tryz.prog 67 #[.slice (some ⟨b, 0, none⟩) 3 3, .string ⟨#[32]⟩] w fun e w' => e = .returned (.string ⟨(Lib.join (wordsOf u) [32]).toArray⟩) ∧ Below w.heap.size w w' := hj
  have HS : Hid (sentOf u = (⟨(Lib.join (wordsOf u) [32]).toArray⟩ : ByteArray) ++ (⟨#[59]⟩ : ByteArray)) := rfl
  have hsz : (⟨(Lib.join (wordsOf u) [32]).toArray⟩ : ByteArray).size ≤ 1000 := by
    have : (⟨(Lib.join (wordsOf u) [32]).toArray⟩ : ByteArray).size = (Lib.join (wordsOf u) [32]).length := by simp [ByteArray.size]
    omega
  generalize (⟨(Lib.join (wordsOf u) [32]).toArray⟩ : ByteArray) = J at *
  have hsum : (J.size : Int) + 1 ≤ 9223372036854775807 := by omega
  clear hj e c0 c1 c2 hb hw
  go_enter Tryz.func34, Tryz.ntmps34
  go_wp2_with fail
  refine hj'.mono ?_
  clear hj'
  rintro e w1 ⟨rfl, hb1⟩
  go_wp2
  go_ret
  exact ⟨by rw [HS.out]; rfl, hb1⟩

theorem textFrom_snoc : ∀ (us : List Up) (t : ByteArray) (u : Up), textFrom t (us ++ [u]) = textFrom t us ++ sentOf u
  | [], _, _ => rfl
  | _ :: us, _, u => textFrom_snoc us _ u
theorem textFrom_size : ∀ (us : List Up) (t : ByteArray), (∀ u ∈ us, RightU u) → (textFrom t us).size ≤ t.size + us.length * 101
  | [], t, _ => by simp [textFrom]
  | u :: us, t, h => by
    have h1 := textFrom_size us (t ++ sentOf u) (fun v hv => h v (by simp [hv]))
    have h2 := sent_size (h u (by simp))
    rw [ByteArray.size_append] at h1
    rw [textFrom, List.length_cons]
    omega

set_option maxHeartbeats 4000000 in
theorem text_any (a : Option Addr) (c : Nat) (us : List Up) (w : World) (hg : Glob w) (h : HoldsU w a us) (hl : us.length ≤ 9223372036854775807) :
    Calls Tryz.prog 10 #[.slice a us.length c] w fun e w' => e = .returned (.tuple #[.string (textS us), .int .i64 (checkU us)]) ∧ Below w.heap.size w w' := by
  go_enter Tryz.func10, Tryz.ntmps10
  go_wp2_with fail
  refine (ucheck_any a c us w hg h hl).mono ?_
  rintro e w1 ⟨rfl, hb1⟩
  by_cases k1 : checkU us = 0
  case neg =>
    have HR : Hid (textS us = ⟨#[]⟩) := if_neg k1
    have z1 : (checkU us != 0) = true := by simpa using k1
    clear k1
    go_wp2
    refine bodyPost_ret (v := .tuple #[.string ⟨#[]⟩, .int .i64 (checkU us)]) (by simp [results, Tryz.results10, go_sem]) rfl ?_
    exact ⟨by rw [HR.out], hb1⟩
  obtain ⟨c1, c2, c3, c4⟩ := checkU_iff.1 k1
  have HT : Hid (textS us = textOf us) := if_pos k1
  have HZ : Hid (checkU us = 0) := k1
  rw [k1]
  clear k1
  have hcl := cloneU_any a c us w1 (h.below hb1) (by omega) (fun e => by
    subst e
    cases us with
    | nil => rfl
    | cons x l => obtain ⟨b, off, e, _⟩ := h 0 (by simp); cases e)
  go_wp2_with fail
  refine hcl.mono ?_
  clear hcl
  rintro e w2 ⟨v', rfl, o2, hb2⟩
  have hB2 := hb1.trans (hb2.mono hb1.size)
  obtain ⟨g, cap, rfl, hge⟩ : ∃ g cap, v' = .slice (some ⟨g, 0, none⟩) us.length cap ∧ w1.heap.size ≤ g := by
    rcases o2.2 with ⟨_, e⟩ | ⟨g, cap, cur, e, e2, _⟩
    · omega
    · exact ⟨g, cap, e, e2⟩
  have hso := sortU_any w1.heap.size g cap us w2 o2 (by omega)
  clear o2
  go_wp2_with fail
  refine hso.mono ?_
  clear hso
  rintro e w3 ⟨rfl, d, hp, hs, o3, g3⟩
  have hB3 : Below w.heap.size w w3 := hB2.trans ⟨g3.os, g3.tape, g3.output, g3.size, fun k hk => g3.block k (by have := hB2.size; omega) (fun e => by cases e; have := hb1.size; omega)⟩
  have hd := sortU_one c4 hp hs
  have hdl : d.length = us.length := hp.length_eq
  rw [← hdl] at o3
  obtain ⟨a3, cc3, hv3, hh3, -⟩ := ownU_reads o3
  have HA : Hid (a3 = some ⟨g, 0, none⟩) := by cases hv3; rfl
  have HDR : Hid (∀ u ∈ d, RightU u) := fun u hu => c3 u (hp.mem_iff.1 hu)
  have HDT : Hid (textFrom ⟨#[]⟩ d = textS us) := by unfold Hid; rw [HT.out, textOf, hd]
  rw [HA.out] at hh3
  rw [← hdl]
  have hd4 : d.length ≤ 4 := by omega
  clear o3 g3 hp hs hd hB2 hb1 hb2 hge hv3 HT HA h hl c1 c2 c3 c4
  go_wp2
  go_loopw [6, 20] (fun t i wr => ∃ (k : Nat) (s : ByteArray), t = .string s ∧ i = .int .i64 k ∧ k ≤ d.length ∧ Hid (s = textFrom ⟨#[]⟩ (d.take k)) ∧ Below w3.heap.size w3 wr) (fun _ i _ => d.length - (intOf i).toNat)
  case atStart => exact ⟨0, _, rfl, rfl, Nat.zero_le _, rfl, Below.refl _ _⟩
  case round =>
    obtain ⟨k, s, rfl, rfl, hk, HSt, hBr⟩ := hrel
    have hBw := hB3.trans (hBr.mono hB3.size)
    by_cases hlt : k < d.length
    · obtain ⟨b, off, e, hb, hc⟩ := (hh3.below hBr) k hlt
      cases e
      obtain ⟨y0, y1, y2⟩ := hc k hlt
      rw [Nat.zero_add] at y0 y1 y2
      clear hc hb
      have RU := HDR.out d[k] (List.getElem_mem hlt)
      have HSn : Hid (s ++ sentOf d[k] = textFrom ⟨#[]⟩ (d.take (k + 1))) := by unfold Hid; rw [List.take_succ_eq_append_getElem hlt, textFrom_snoc, HSt.out]
      have hsz : s.size ≤ 1000 := by
        have := textFrom_size (d.take k) ⟨#[]⟩ (fun u hu => HDR.out u (List.mem_of_mem_take hu))
        rw [← HSt.out] at this
        rw [List.length_take] at this
        have e0 : (⟨#[]⟩ : ByteArray).size = 0 := rfl
        omega
      have hs2 := sent_size RU
      have hsum : ¬ 9223372036854775807 < s.size + (sentOf d[k]).size := by omega
      have hA := below_alloc wr (.cells #[.string d[k].name, .int .i64 d[k].old, .int .i64 d[k].new] 27)
      have hbk := heap_alloc_new wr (.cells #[.string d[k].name, .int .i64 d[k].old, .int .i64 d[k].new] 27)
      have hBA := hBr.trans (hA.mono hBr.size)
      obtain ⟨x, hx⟩ : ∃ x, x = d[k] := ⟨_, rfl⟩
      rw [← hx] at y0 y1 y2 RU HSn hs2 hsum hA hbk hBA
      clear hx
      go_wp2_with fail
      generalize wr.alloc (.cells #[.string x.name, .int .i64 x.old, .int .i64 x.new] 27) = W at *
      obtain ⟨B, hBe⟩ : ∃ B, B = wr.heap.size := ⟨_, rfl⟩
      have hdr := (Below.refl W.heap.size W).drew
      have hbD := (hdr.block _ (heap_lt hbk)).trans hbk
      have hBD := hBA.trans (hdr.mono hBA.size)
      rw [← hBe] at hbD
      rw [← hBe]
      clear hBe hdr hbk hBA hA y0 y1 y2 hBw hBr
      have i1 := fun W => Tryz.strconv_Itoa_small x.old.toNat (by have := RU.o1; omega) W
      have i2 := fun W => Tryz.strconv_Itoa_small x.new.toNat (by have := RU.n1; omega) W
      rw [Int.toNat_of_nonneg RU.o0] at i1
      rw [Int.toNat_of_nonneg RU.n0] at i2
      have se := fun b w => sentence_any x RU b w
      generalize (⟨(Lib.decDigits x.old.toNat).toArray⟩ : ByteArray) = D1 at *
      generalize (⟨(Lib.decDigits x.new.toNat).toArray⟩ : ByteArray) = D2 at *
      generalize sentOf x = sx at *
      refine wp_region_E (fun W => W.heap[B]? = some (.cells #[.string x.name, .int .i64 x.old, .int .i64 x.new] 27)) (fun _ => false) (by kernel_rfl) hbD (fun hS => ?_)
      generalize W.drew = W0 at *
      refine wpAnyE.take (i := 0) (v := ?_) rfl (by kernel_rfl) (by kernel_rfl) (by kernel_rfl) (by kernel_rfl) (fun _ _ _ h => h) (Or.inl ⟨by rfl, ?_⟩) (by assumption) ?_
      rotate_left
      · intro w hSw; obtain ⟨z3, z4, z5⟩ := c3_of hSw; clear hSw; go_simp; with_reducible rfl
      try simp only [Act.put, List.getElem_toArray, List.getElem_cons_zero, List.setIfInBounds_toArray, List.set_cons_zero, List.set_cons_succ]
      refine wpAnyE.take (i := 1) (v := ?_) rfl (by kernel_rfl) (by kernel_rfl) (by kernel_rfl) (by kernel_rfl) (fun _ _ _ h => h) (Or.inl ⟨by rfl, ?_⟩) (by assumption) ?_
      rotate_left
      · intro w hSw; obtain ⟨z3, z4, z5⟩ := c3_of hSw; clear hSw; go_simp; with_reducible rfl
      try simp only [Act.put, List.getElem_toArray, List.getElem_cons_succ, List.getElem_cons_zero, List.setIfInBounds_toArray, List.set_cons_zero, List.set_cons_succ]
      refine wpAnyE.take (i := 2) (v := ?_) rfl (by kernel_rfl) (by kernel_rfl) (by kernel_rfl) (by kernel_rfl) (fun _ _ _ h => h) (Or.inl ⟨by rfl, ?_⟩) (by assumption) ?_
      rotate_left
      · intro w hSw; obtain ⟨z3, z4, z5⟩ := c3_of hSw; clear hSw; go_simp; with_reducible rfl
      try simp only [Act.put, List.getElem_toArray, List.getElem_cons_succ, List.getElem_cons_zero, List.setIfInBounds_toArray, List.set_cons_zero, List.set_cons_succ]
      refine wpAnyE.take (i := 3) (v := ?_) rfl (by kernel_rfl) (by kernel_rfl) (by kernel_rfl) (by kernel_rfl) (fun _ _ _ h => h) (Or.inl ⟨by rfl, ?_⟩) (by assumption) ?_
      rotate_left
      · intro w hSw; obtain ⟨z3, z4, z5⟩ := c3_of hSw; clear hSw; go_simp; with_reducible rfl
      try simp only [Act.put, List.getElem_toArray, List.getElem_cons_succ, List.getElem_cons_zero, List.setIfInBounds_toArray, List.set_cons_zero, List.set_cons_succ]
      refine wpAnyE.take (i := 4) (v := ?_) rfl (by kernel_rfl) (by kernel_rfl) (by kernel_rfl) (by kernel_rfl) (fun _ _ _ h => h) (Or.inl ⟨by rfl, ?_⟩) (by assumption) ?_
      rotate_left
      · intro w hSw; obtain ⟨z3, z4, z5⟩ := c3_of hSw; clear hSw; go_simp; with_reducible rfl
      try simp only [Act.put, List.getElem_toArray, List.getElem_cons_succ, List.getElem_cons_zero, List.setIfInBounds_toArray, List.set_cons_zero, List.set_cons_succ]
      refine wpAnyE.take (i := 6) (v := ?_) rfl (by kernel_rfl) (by kernel_rfl) (by kernel_rfl) (by kernel_rfl) (fun _ _ _ h => h) (Or.inl ⟨by rfl, ?_⟩) (by assumption) ?_
      rotate_left
      · intro w hSw; obtain ⟨z3, z4, z5⟩ := c3_of hSw; clear hSw; go_simp; with_reducible rfl
      try simp only [Act.put, List.getElem_toArray, List.getElem_cons_succ, List.getElem_cons_zero, List.setIfInBounds_toArray, List.set_cons_zero, List.set_cons_succ]
      refine wpAnyE.take (i := 7) (v := ?_) rfl (by kernel_rfl) (by kernel_rfl) (by kernel_rfl) (by kernel_rfl) (fun _ _ _ h => h) (Or.inl ⟨by rfl, ?_⟩) (by assumption) ?_
      rotate_left
      · intro w hSw; obtain ⟨z3, z4, z5⟩ := c3_of hSw; clear hSw; go_simp; with_reducible rfl
      try simp only [Act.put, List.getElem_toArray, List.getElem_cons_succ, List.getElem_cons_zero, List.setIfInBounds_toArray, List.set_cons_zero, List.set_cons_succ]
      refine wpAnyE.one (i := 5) (by kernel_rfl) rfl (fun K hK => ?_)
      go_simp
      refine (i1 W0).mono ?_
      rintro e W1 ⟨rfl, rfl⟩
      refine hK _ _ (fun _ => hS) ?_
      clear hK K
      try simp only [Act.put, List.getElem_toArray, List.getElem_cons_succ, List.getElem_cons_zero, List.setIfInBounds_toArray, List.set_cons_zero, List.set_cons_succ]
      refine wpAnyE.one (i := 8) (by kernel_rfl) rfl (fun K hK => ?_)
      go_simp
      refine (i2 W1).mono ?_
      rintro e W2 ⟨rfl, rfl⟩
      refine hK _ _ (fun _ => hS) ?_
      clear hK K
      try simp only [Act.put, List.getElem_toArray, List.getElem_cons_succ, List.getElem_cons_zero, List.setIfInBounds_toArray, List.set_cons_zero, List.set_cons_succ]
      refine wpAnyE.one (i := 9) (by kernel_rfl) rfl (fun K hK => ?_)
      go_simp
      obtain ⟨W3, hW3⟩ : ∃ W3, W3 = W2.alloc (.cells #[.string x.name, .string D1, .string D2] 9) := ⟨_, rfl⟩
      have hb3 : Below W2.heap.size W2 W3 := by rw [hW3]; exact below_alloc _ _
      have hv3 : W3.heap[W2.heap.size]? = some (.cells #[.string x.name, .string D1, .string D2] 9) := by rw [hW3]; exact heap_alloc_new W2 _
      rw [← hW3]
      clear hW3
      have hS3 := (hb3.block _ (heap_lt hS)).trans hS
      have hBD3 := hBD.trans (hb3.mono hBD.size)
      refine hK _ _ (fun _ => hS3) ?_
      clear hK K hS hBD
      try simp only [Act.put, List.getElem_toArray, List.getElem_cons_succ, List.getElem_cons_zero, List.setIfInBounds_toArray, List.set_cons_zero, List.set_cons_succ]
      refine wpAnyE.one (i := 10) (by kernel_rfl) rfl (fun K hK => ?_)
      go_simp
      refine (se _ W3 hv3).mono ?_
      rintro e W4 ⟨rfl, hb4⟩
      have hS4 := (hb4.block _ (heap_lt hS3)).trans hS3
      have hBD4 := hBD3.trans (hb4.mono hBD3.size)
      refine hK _ _ (fun _ => hS4) ?_
      clear hK K hS3 hBD3 hb4 hv3 hb3
      try simp only [Act.put, List.getElem_toArray, List.getElem_cons_succ, List.getElem_cons_zero, List.setIfInBounds_toArray, List.set_cons_zero, List.set_cons_succ]
      refine wpAnyE.one (i := 11) (by kernel_rfl) rfl (fun K hK => ?_)
      go_simp
      refine hK _ _ (fun _ => hS4) ?_
      clear hK K
      try simp only [Act.put, List.getElem_toArray, List.getElem_cons_succ, List.getElem_cons_zero, List.setIfInBounds_toArray, List.set_cons_zero, List.set_cons_succ]
      refine wpAnyE.one (i := 12) (by kernel_rfl) rfl (fun K hK => ?_)
      go_simp
      refine hK _ _ (fun _ => hS4) ?_
      clear hK K
      try simp only [Act.put, List.getElem_toArray, List.getElem_cons_succ, List.getElem_cons_zero, List.setIfInBounds_toArray, List.set_cons_zero, List.set_cons_succ]
      refine wpAnyE.done (by kernel_rfl) ?_
      clear hS4 hbD
      go_wp2
      go_roundw
      case rel => exact ⟨k + 1, _, rfl, by go_num, by omega, HSn, hBD4⟩
      case measure => simp [intOf]; omega
    · have HF : Hid (s = textS us) := by
        unfold Hid
        rw [HSt.out, List.take_of_length_le (by omega), HDT.out]
      go_wp2
      refine bodyPost_ret (v := .tuple #[.string s, .int .i64 0]) (by simp [results, Tryz.results10, go_sem]) rfl ?_
      exact ⟨by rw [HF.out, HZ.out], hBw⟩

/-- two refs held against each other. -/
def sameR (x y : Rf) : Bool := x.name.toList == y.name.toList && x.id == y.id
theorem sameR_self (x : Rf) : sameR x x = true := by simp [sameR]
theorem neqR (x y : Rf) (w : World) : (binOp .neq 38 x.val y.val).run Tryz.prog w = .ok (.bool (!sameR x y)) w := by
  have u3 := Tryz.underlying3
  have a3 := Tryz.isAgg3
  have z3 := Tryz.sizeOf3
  have u9 := Tryz.underlying9
  have a9 := Tryz.isAgg9
  have z9 := Tryz.sizeOf9
  have hS : Tryz.prog.underlying 38 = some (.struct (Tryz.prog.fieldsOf 38)) := by kernel_rfl
  have hp : Tryz.prog.stoodInHeld 38 = false := by kernel_rfl
  rw [run_neq_struct, show (10000 : Nat) = 9999 + 1 from rfl, run_equalIn_agg w 9999 38 _ _ hS hp]
  simp only [Program.fieldsOf, Tryz.underlying38]
  go_simp
  unfold sameR
  by_cases h1 : x.name.toList = y.name.toList <;> by_cases h2 : x.id = y.id <;> simp [h1, h2]

set_option maxHeartbeats 2000000 in
theorem sameRefs_eq (a : Option Addr) (c : Nat) (a2 : Option Addr) (c2 : Nat) (l : List Rf) (w : World) (h : HoldsR w a l) (h2 : HoldsR w a2 l) (hl : l.length ≤ 9223372036854775807) :
    Calls Tryz.prog 11 #[.slice a l.length c, .slice a2 l.length c2] w fun e w' => e = .returned (.bool true) ∧ Below w.heap.size w w' := by
  go_enter Tryz.func11, Tryz.ntmps11
  go_wp2
  go_loopw [5] (fun i wr => ∃ k : Nat, i = .int .i64 k ∧ k ≤ l.length ∧ Below w.heap.size w wr) (fun i _ => l.length - (intOf i).toNat)
  case atStart => exact ⟨0, rfl, Nat.zero_le _, Below.refl _ _⟩
  case round =>
    obtain ⟨k, rfl, hk, hB⟩ := hrel
    by_cases hlt : k < l.length
    · have hlt' : (k : Int) < (l.length : Int) := by omega
      obtain ⟨b, off, rfl, hb, hc⟩ := (h.below hB) k hlt
      obtain ⟨b2, off2, rfl, hb2, hc2⟩ := (h2.below hB) k hlt
      obtain ⟨x0, x1⟩ := hc k hlt
      obtain ⟨v0, v1⟩ := hc2 k hlt
      have hn := neqR l[k] l[k]
      rw [sameR_self] at hn
      have hgd := fun op a b w => run_eqGuard_agg (P := Tryz.prog) w op 38 a b #[.string l[k].name, .int .i64 l[k].id] #[.string l[k].name, .int .i64 l[k].id] (by kernel_rfl)
      generalize l[k].name = nm at *
      generalize l[k].id = id at *
      clear hc hc2 h h2
      go_wp2_with fail
      have hdr := (Below.refl wr.heap.size wr).drew
      have hBD := hB.trans (hdr.mono hB.size)
      have s0 : wr.drew.cell? ⟨b, off + k * 2, none⟩ = some (.string nm) := x0
      have s1 : wr.drew.cell? ⟨b, off + k * 2 + 1, none⟩ = some (.int .i64 id) := x1
      have s2 : wr.drew.cell? ⟨b2, off2 + k * 2, none⟩ = some (.string nm) := v0
      have s3 : wr.drew.cell? ⟨b2, off2 + k * 2 + 1, none⟩ = some (.int .i64 id) := v1
      clear hdr x0 x1 v0 v1
      refine wp_region_E (fun W => (W.cell? ⟨b, off + k * 2, none⟩ = some (.string nm) ∧ W.cell? ⟨b, off + k * 2 + 1, none⟩ = some (.int .i64 id)) ∧ (W.cell? ⟨b2, off2 + k * 2, none⟩ = some (.string nm) ∧ W.cell? ⟨b2, off2 + k * 2 + 1, none⟩ = some (.int .i64 id))) (fun _ => false) (by kernel_rfl) ⟨⟨s0, s1⟩, ⟨s2, s3⟩⟩ (fun hS => ?_)
      generalize wr.drew = W0 at *
      clear s0 s1 s2 s3
      refine wpAnyE.take (i := 0) (v := ?_) rfl (by kernel_rfl) (by kernel_rfl) (by kernel_rfl) (by kernel_rfl) (fun _ _ _ h => h) (Or.inl ⟨by rfl, ?_⟩) (by assumption) ?_
      rotate_left
      · intro w hSw; obtain ⟨⟨z0, z1⟩, ⟨z2, z3⟩⟩ := hSw; go_simp; with_reducible rfl
      try simp only [Act.put, List.getElem_toArray, List.getElem_cons_zero, List.setIfInBounds_toArray, List.set_cons_zero, List.set_cons_succ]
      refine wpAnyE.take (i := 1) (v := ?_) rfl (by kernel_rfl) (by kernel_rfl) (by kernel_rfl) (by kernel_rfl) (fun _ _ _ h => h) (Or.inl ⟨by rfl, ?_⟩) (by assumption) ?_
      rotate_left
      · intro w hSw; obtain ⟨⟨z0, z1⟩, ⟨z2, z3⟩⟩ := hSw; go_simp; with_reducible rfl
      try simp only [Act.put, List.getElem_toArray, List.getElem_cons_succ, List.getElem_cons_zero, List.setIfInBounds_toArray, List.set_cons_zero, List.set_cons_succ]
      refine wpAnyE.take (i := 2) (v := ?_) rfl (by kernel_rfl) (by kernel_rfl) (by kernel_rfl) (by kernel_rfl) (fun _ _ _ h => h) (Or.inl ⟨by rfl, ?_⟩) (by assumption) ?_
      rotate_left
      · intro w hSw; obtain ⟨⟨z0, z1⟩, ⟨z2, z3⟩⟩ := hSw; go_simp; with_reducible rfl
      try simp only [Act.put, List.getElem_toArray, List.getElem_cons_succ, List.getElem_cons_zero, List.setIfInBounds_toArray, List.set_cons_zero, List.set_cons_succ]
      refine wpAnyE.take (i := 3) (v := ?_) rfl (by kernel_rfl) (by kernel_rfl) (by kernel_rfl) (by kernel_rfl) (fun _ _ _ h => h) (Or.inl ⟨by rfl, ?_⟩) (by assumption) ?_
      rotate_left
      · intro w hSw; obtain ⟨⟨z0, z1⟩, ⟨z2, z3⟩⟩ := hSw; go_simp; with_reducible rfl
      try simp only [Act.put, List.getElem_toArray, List.getElem_cons_succ, List.getElem_cons_zero, List.setIfInBounds_toArray, List.set_cons_zero, List.set_cons_succ]
      refine wpAnyE.take (i := 4) (v := ?_) rfl (by kernel_rfl) (by kernel_rfl) (by kernel_rfl) (by kernel_rfl) (fun _ _ _ h => h) (Or.inl ⟨by rfl, ?_⟩) (by assumption) ?_
      rotate_left
      · intro w hSw; obtain ⟨⟨z0, z1⟩, ⟨z2, z3⟩⟩ := hSw; go_simp; with_reducible rfl
      try simp only [Act.put, List.getElem_toArray, List.getElem_cons_succ, List.getElem_cons_zero, List.setIfInBounds_toArray, List.set_cons_zero, List.set_cons_succ]
      refine wpAnyE.take (i := 5) (v := ?_) rfl (by kernel_rfl) (by kernel_rfl) (by kernel_rfl) (by kernel_rfl) (fun _ _ _ h => h) (Or.inl ⟨by rfl, ?_⟩) (by assumption) ?_
      rotate_left
      · intro w hSw; obtain ⟨⟨z0, z1⟩, ⟨z2, z3⟩⟩ := hSw; go_simp; with_reducible rfl
      try simp only [Act.put, List.getElem_toArray, List.getElem_cons_succ, List.getElem_cons_zero, List.setIfInBounds_toArray, List.set_cons_zero, List.set_cons_succ]
      refine wpAnyE.take (i := 6) (v := ?_) rfl (by kernel_rfl) (by kernel_rfl) (by kernel_rfl) (by kernel_rfl) (fun _ _ _ h => h) (Or.inl ⟨by rfl, ?_⟩) (by assumption) ?_
      rotate_left
      · intro w hSw; obtain ⟨⟨z0, z1⟩, ⟨z2, z3⟩⟩ := hSw; go_simp; with_reducible rfl
      try simp only [Act.put, List.getElem_toArray, List.getElem_cons_succ, List.getElem_cons_zero, List.setIfInBounds_toArray, List.set_cons_zero, List.set_cons_succ]
      refine wpAnyE.take (i := 7) (v := ?_) rfl (by kernel_rfl) (by kernel_rfl) (by kernel_rfl) (by kernel_rfl) (fun _ _ _ h => h) (Or.inl ⟨by rfl, ?_⟩) (by assumption) ?_
      rotate_left
      · intro w hSw; obtain ⟨⟨z0, z1⟩, ⟨z2, z3⟩⟩ := hSw; go_simp; with_reducible rfl
      try simp only [Act.put, List.getElem_toArray, List.getElem_cons_succ, List.getElem_cons_zero, List.setIfInBounds_toArray, List.set_cons_zero, List.set_cons_succ]
      refine wpAnyE.take (i := 8) (v := ?_) rfl (by kernel_rfl) (by kernel_rfl) (by kernel_rfl) (by kernel_rfl) (fun _ _ _ h => h) (Or.inl ⟨by rfl, ?_⟩) (by assumption) ?_
      rotate_left
      · intro w hSw; obtain ⟨⟨z0, z1⟩, ⟨z2, z3⟩⟩ := hSw; go_simp; with_reducible rfl
      try simp only [Act.put, List.getElem_toArray, List.getElem_cons_succ, List.getElem_cons_zero, List.setIfInBounds_toArray, List.set_cons_zero, List.set_cons_succ]
      refine wpAnyE.done (by kernel_rfl) ?_
      clear hS
      go_wp2
      go_roundw
      case rel => exact ⟨k + 1, by go_num, by omega, hBD⟩
      case measure => simp [intOf]; omega
    · go_wp2
      go_ret
      exact ⟨rfl, hB⟩

set_option maxHeartbeats 800000 in
theorem refAt_any (a : Option Addr) (c : Nat) (l : List Rf) (nm : ByteArray) (w : World) (h : HoldsR w a l) (hl : l.length ≤ 9223372036854775807) :
    Calls Tryz.prog 41 #[.slice a l.length c, .string nm] w fun e w' => e = .returned (.int .i64 (indexR (sameN nm) l)) ∧ Below w.heap.size w w' := by
  go_enter Tryz.func41, Tryz.ntmps41
  go_wp2
  go_loopw [5] (fun i wr => ∃ k : Nat, i = .int .i64 k ∧ k ≤ l.length ∧ Below w.heap.size w wr ∧ Hid (∀ j (hj : j < l.length), j < k → (sameN nm) l[j] = false)) (fun i _ => l.length - (intOf i).toNat)
  case atStart => exact ⟨0, rfl, Nat.zero_le _, Below.refl _ _, fun j _ h => absurd h (Nat.not_lt_zero j)⟩
  case round =>
    obtain ⟨k, rfl, hk, hB, H⟩ := hrel
    by_cases hlt : k < l.length
    · have hlt' : (k : Int) < (l.length : Int) := by omega
      obtain ⟨b, off, rfl, hb, hc⟩ := (h.below hB) k hlt
      obtain ⟨x0, x1⟩ := hc k hlt
      clear hc
      cases hq : sameN nm l[k] with
      | true =>
        have HR : Hid (indexR (sameN nm) l = k) := indexR_hit hlt H.out hq
        have z : (l[k].name.toList == nm.toList) = true := hq
        clear hq
        go_wp2
        go_ret
        exact ⟨ret_int HR.out.symm, hB⟩
      | false =>
        have HN : Hid (∀ j (hj : j < l.length), j < k + 1 → (sameN nm) l[j] = false) := fun j hj hjk => by
          rcases Nat.lt_or_ge j k with h1 | h1
          · exact H.out j hj h1
          · have : j = k := by omega
            subst this
            exact hq
        have z : (l[k].name.toList == nm.toList) = false := hq
        clear hq
        go_wp2
        go_roundw
        case rel => exact ⟨k + 1, by go_num, by omega, hB, HN⟩
        case measure => simp [intOf]; omega
    · have HR : Hid (indexR (sameN nm) l = -1) := indexR_miss (fun j hj => H.out j hj (by omega))
      go_wp2
      go_ret
      exact ⟨ret_int HR.out.symm, hB⟩

theorem look_index {l : List Rf} {nm : ByteArray} {i : Nat} (hi : i < l.length) (h : indexR (sameN nm) l = i) : lookI l nm = l[i].id := by
  rcases indexR_cases (sameN nm) l with ⟨h1, _⟩ | ⟨j, h1, hj, h2, h3⟩
  · omega
  · have : j = i := by omega
    subst this
    unfold lookI
    have : l.find? (sameN nm) = some l[j] := by
      rw [List.find?_eq_some_iff_getElem]
      exact ⟨h2, j, hj, rfl, fun t ht => by simpa using h3 t (by omega) ht⟩
    rw [this]
    rfl

set_option maxHeartbeats 800000 in
theorem idOf_any (a : Option Addr) (c : Nat) (l : List Rf) (nm : ByteArray) (w : World) (h : HoldsR w a l) (hl : l.length ≤ 9223372036854775807) :
    Calls Tryz.prog 13 #[.slice a l.length c, .string nm] w fun e w' => e = .returned (.int .i64 (lookI l nm)) ∧ Below w.heap.size w w' := by
  go_enter Tryz.func13, Tryz.ntmps13
  go_wp2_with fail
  refine (refAt_any a c l nm w h hl).mono ?_
  rintro e w1 ⟨rfl, hb1⟩
  rcases indexR_cases (sameN nm) l with ⟨h1, h2⟩ | ⟨i, h1, hi, -, -⟩
  · have HR : Hid (lookI l nm = 0) := look_none (fun r hr => sameN_not.1 (h2 r hr))
    rw [h1]
    clear h1 h2
    go_wp2
    go_ret
    exact ⟨ret_int HR.out.symm, hb1⟩
  · have HR : Hid (lookI l nm = l[i].id) := look_index hi h1
    rw [h1]
    obtain ⟨b, off, rfl, hb, hc⟩ := (h.below hb1) i hi
    obtain ⟨x0, x1⟩ := hc i hi
    have hi' : (i : Int) < (l.length : Int) := by omega
    clear hc h1
    go_wp2
    go_ret
    exact ⟨ret_int HR.out.symm, hb1⟩
end

section
open Go.RowKit
set_option maxRecDepth 100000

abbrev nB : ByteArray := { data := #[98] }
def movesL : List Up := [⟨nMain, 3, 5⟩, ⟨nB, 0, 3⟩]
def backL : List Up := [⟨nXY, 5, 3⟩]
def movedL : List Rf := [⟨nB, 3⟩, ⟨nMain, 5⟩, ⟨nXY, 5⟩]
abbrev saidT : ByteArray := { data := #[98, 32, 48, 32, 51, 59, 109, 97, 105, 110, 32, 51, 32, 53, 59] }
theorem beg_apply : applyE namesL shelfL movesL false = 0 := by decide +kernel
theorem beg_moved : runL namesL movesL = movedL := by kernel_rfl
theorem beg_text : textS movesL = saidT := by kernel_rfl
theorem beg_checkU : checkU movesL = 0 := by decide +kernel
theorem beg_back : applyE namesL shelfL backL false = 4 := by decide +kernel

theorem holdsU_one (w : World) (u : Up) : HoldsU (w.alloc (.cells #[.string u.name, .int .i64 u.old, .int .i64 u.new] 27)) (some ⟨w.heap.size, 0, none⟩) [u] := by
  intro i hi
  have hbk := heap_alloc_new w (.cells #[.string u.name, .int .i64 u.old, .int .i64 u.new] 27)
  refine ⟨_, _, rfl, heap_lt hbk, fun k hk => ?_⟩
  match k, hk with
  | 0, _ => exact ⟨by rw [cell_of_row _ _ _ _ _ _ hbk]; rfl, by rw [cell_of_row _ _ _ _ _ _ hbk]; rfl, by rw [cell_of_row _ _ _ _ _ _ hbk]; rfl⟩

set_option maxHeartbeats 400000 in
theorem moves_any (w : World) : Calls Tryz.prog 23 #[] w fun e w' => ∃ g, e = .returned (.slice (some ⟨g, 0, none⟩) 2 2) ∧ HoldsU w' (some ⟨g, 0, none⟩) movesL ∧ Below w.heap.size w w' := by
  have hA := below_alloc w (.cells #[.string nMain, .int .i64 3, .int .i64 5, .string nB, .int .i64 0, .int .i64 3] 27)
  have hbk := heap_alloc_new w (.cells #[.string nMain, .int .i64 3, .int .i64 5, .string nB, .int .i64 0, .int .i64 3] 27)
  have hH : HoldsU (w.alloc (.cells #[.string nMain, .int .i64 3, .int .i64 5, .string nB, .int .i64 0, .int .i64 3] 27)) (some ⟨w.heap.size, 0, none⟩) movesL := by
    intro i hi
    refine ⟨_, _, rfl, heap_lt hbk, fun k hk => ?_⟩
    match k, hk with
    | 0, _ => exact ⟨by rw [cell_of_row _ _ _ _ _ _ hbk]; rfl, by rw [cell_of_row _ _ _ _ _ _ hbk]; rfl, by rw [cell_of_row _ _ _ _ _ _ hbk]; rfl⟩
    | 1, _ => exact ⟨by rw [cell_of_row _ _ _ _ _ _ hbk]; rfl, by rw [cell_of_row _ _ _ _ _ _ hbk]; rfl, by rw [cell_of_row _ _ _ _ _ _ hbk]; rfl⟩
  go_enter Tryz.func23, Tryz.ntmps23
  go_wp2
  go_ret
  exact ⟨_, rfl, hH, hA⟩

set_option maxHeartbeats 2000000 in
theorem updateBegun_any (w : World) (hg : Glob w) : Calls Tryz.prog 7 #[] w fun e w' => e = .returned (.bool true) ∧ Below w.heap.size w w' := by
  go_enter Tryz.func7, Tryz.ntmps7
  go_wp2_with fail
  refine (names_any w).mono ?_
  rintro e w1 ⟨g1, rfl, h1, hb1⟩
  go_wp2_with fail
  refine (shelf_room w1).mono ?_
  rintro e w2 ⟨g2, rfl, hb2, h2, r2⟩
  have h1' := h1.below hb2
  have hB2 := hb1.trans (hb2.mono hb1.size)
  clear h1 hb1 hb2
  go_wp2_with fail
  refine (moves_any w2).mono ?_
  rintro e w3 ⟨g3, rfl, h3, hb3⟩
  have h13 := h1'.below hb3
  have h23 := h2.below hb3
  have r23 := r2.below hb3
  have hB3 := hB2.trans (hb3.mono hB2.size)
  clear h1' h2 r2 hb3 hB2
  have hap := apply_any (some ⟨g1, 0, none⟩) 2 namesL (some ⟨g2, 0, none⟩) 5 shelfL (some ⟨g3, 0, none⟩) 2 movesL false w3 (hg.below hB3) h13 (by decide) h23 r23 (by decide) h3 (by decide)
  go_wp2_with fail
  refine hap.mono ?_
  clear hap
  rintro e w4 ⟨hb4, ⟨hno, -⟩ | ⟨-, a4, c4, rfl, h4, -⟩⟩
  case inl => exact absurd beg_apply hno
  rw [beg_moved] at h4
  rw [show (runL namesL movesL).length = movedL.length by rw [beg_moved]]
  have hB4 := hB3.trans (hb4.mono hB3.size)
  clear hb4 hB3 h13 h23 r23 h3
  go_wp2_with fail
  refine (moves_any w4).mono ?_
  rintro e w5 ⟨g5, rfl, h5, hb5⟩
  have h45 := h4.below hb5
  have hB5 := hB4.trans (hb5.mono hB4.size)
  clear hb5 hB4 h4
  have htx := text_any (some ⟨g5, 0, none⟩) 2 movesL w5 (hg.below hB5) h5 (by decide)
  go_wp2_with fail
  refine htx.mono ?_
  clear htx
  rintro e w6 ⟨rfl, hb6⟩
  rw [beg_text, beg_checkU]
  have h46 := h45.below hb6
  have hB6 := hB5.trans (hb6.mono hB5.size)
  clear hb6 hB5 h45 h5
  go_wp2_with fail
  refine (names_any w6).mono ?_
  rintro e w7 ⟨g7, rfl, h7, hb7⟩
  have h47 := h46.below hb7
  have hB7 := hB6.trans (hb7.mono hB6.size)
  clear hb7 hB6 h46
  go_wp2_with fail
  refine (shelf_room w7).mono ?_
  rintro e w8 ⟨g8, rfl, hb8, h8, r8⟩
  have hA8 := below_alloc w8 (.cells #[.string nXY, .int .i64 5, .int .i64 3] 27)
  have h9 := holdsU_one w8 ⟨nXY, 5, 3⟩
  have h48 := (h47.below hb8).below hA8
  have h78 := (h7.below hb8).below hA8
  have h88 := h8.below hA8
  have r88 := r8.below hA8
  have hB8 := (hB7.trans (hb8.mono hB7.size)).trans (hA8.mono (hB7.trans (hb8.mono hB7.size)).size)
  have hap := apply_any (some ⟨g7, 0, none⟩) 2 namesL (some ⟨g8, 0, none⟩) 5 shelfL (some ⟨w8.heap.size, 0, none⟩) 1 backL false _ (hg.below hB8) h78 (by decide) h88 r88 (by decide) h9 (by decide)
  clear hb8 hB7 h47 h7 h8 r8 h9 h78 h88 r88 hA8
  go_wp2_with fail
  refine hap.mono ?_
  clear hap
  rintro e w9 ⟨hb9, ⟨-, rfl⟩ | ⟨hno, -⟩⟩
  case inr => rw [beg_back] at hno; cases hno
  rw [beg_back]
  have h49 := h48.below hb9
  have hB9 := hB8.trans (hb9.mono hB8.size)
  clear hb9 hB8 h48
  go_wp2_with fail
  refine (moves_any w9).mono ?_
  rintro e w10 ⟨g10, rfl, h10, hb10⟩
  have h410 := h49.below hb10
  have hB10 := hB9.trans (hb10.mono hB9.size)
  clear hb10 hB9 h49
  go_wp2_with fail
  refine (ucheck_any (some ⟨g10, 0, none⟩) 2 movesL w10 (hg.below hB10) h10 (by decide)).mono ?_
  rintro e w11 ⟨rfl, hb11⟩
  rw [beg_checkU]
  have hA := below_alloc w11 (.cells #[.string nB, .int .i64 3, .string nMain, .int .i64 5, .string nXY, .int .i64 5] 38)
  have hbk := heap_alloc_new w11 (.cells #[.string nB, .int .i64 3, .string nMain, .int .i64 5, .string nXY, .int .i64 5] 38)
  have hH : HoldsR (w11.alloc (.cells #[.string nB, .int .i64 3, .string nMain, .int .i64 5, .string nXY, .int .i64 5] 38)) (some ⟨w11.heap.size, 0, none⟩) movedL := by
    intro i hi
    refine ⟨_, _, rfl, heap_lt hbk, fun k hk => ?_⟩
    match k, hk with
    | 0, _ => exact ⟨by rw [cell_of_row _ _ _ _ _ _ hbk]; rfl, by rw [cell_of_row _ _ _ _ _ _ hbk]; rfl⟩
    | 1, _ => exact ⟨by rw [cell_of_row _ _ _ _ _ _ hbk]; rfl, by rw [cell_of_row _ _ _ _ _ _ hbk]; rfl⟩
    | 2, _ => exact ⟨by rw [cell_of_row _ _ _ _ _ _ hbk]; rfl, by rw [cell_of_row _ _ _ _ _ _ hbk]; rfl⟩
  have h411 := (h410.below hb11).below hA
  have hB11 := (hB10.trans (hb11.mono hB10.size)).trans (hA.mono (hB10.trans (hb11.mono hB10.size)).size)
  have hsr := sameRefs_eq a4 c4 (some ⟨w11.heap.size, 0, none⟩) 3 movedL _ h411 hH (by decide)
  clear hb11 hB10 h410 hA hbk hH h411 h10
  go_wp2_with fail
  refine hsr.mono ?_
  clear hsr
  rintro e w12 ⟨rfl, hb12⟩
  have hB12 := hB11.trans (hb12.mono hB11.size)
  clear hb12 hB11
  go_wp2
  go_ret
  exact ⟨rfl, hB12⟩
end

section
open Go.RowKit
set_option maxRecDepth 100000

/-- what Check of a push answers. -/
def pushE (m : List Ob) (us : List Up) : Int := if 12 < m.length then 2 else if eachE m ≠ 0 then eachE m else checkU us
theorem pushE_iff {m : List Ob} {us : List Up} : pushE m us = 0 ↔ m.length ≤ 12 ∧ eachE m = 0 ∧ checkU us = 0 := by
  unfold pushE
  constructor
  · intro h
    split at h
    · omega
    split at h
    · rename_i c; exact absurd h c
    rename_i c
    exact ⟨by omega, Classical.byContradiction c, h⟩
  · rintro ⟨h1, h2, h3⟩
    rw [if_neg (by omega), if_neg (fun e => e h2), h3]
/-- what Try answers. -/
def tryE (s : List Ob) (l : List Rf) (m : List Ob) (us : List Up) (f : Bool) : Int :=
  if pushE m us ≠ 0 then pushE m us else if addE s m ≠ 0 then addE s m else applyE l (takeRes s m) us f
theorem tryE_iff {s : List Ob} {l : List Rf} {m : List Ob} {us : List Up} {f : Bool} : tryE s l m us f = 0 ↔ pushE m us = 0 ∧ addE s m = 0 ∧ applyE l (takeRes s m) us f = 0 := by
  unfold tryE
  constructor
  · intro h
    split at h
    · rename_i c; exact absurd h c
    rename_i c1
    split at h
    · rename_i c; exact absurd h c
    rename_i c2
    exact ⟨Classical.byContradiction c1, Classical.byContradiction c2, h⟩
  · rintro ⟨h1, h2, h3⟩
    rw [if_neg (fun e => e h1), if_neg (fun e => e h2), h3]
/-- objects that are there already need not come. -/
theorem try_bare {s : List Ob} {l : List Rf} {m : List Ob} {us : List Up} {f : Bool} (h : tryE s l m us f = 0) : tryE (takeRes s m) l [] us f = 0 ∧ takeRes (takeRes s m) [] = takeRes s m := by
  obtain ⟨h1, h2, h3⟩ := tryE_iff.1 h
  obtain ⟨_, _, h6⟩ := pushE_iff.1 h1
  obtain ⟨a1, a2, a3, a4, a5⟩ := addE_zero h2
  have e : takeRes (takeRes s m) [] = takeRes s m := rfl
  refine ⟨tryE_iff.2 ⟨pushE_iff.2 ⟨by simp, rfl, h6⟩, ?_, by rw [e]; exact h3⟩, e⟩
  unfold addE
  rw [if_neg (fun q => q a5), if_neg (by simp), if_neg (fun q => q rfl), if_neg (fun q => q rfl)]
  exact a5
/-- done, it is refused a second time, if it moved a name. -/
theorem try_again {s : List Ob} {l : List Rf} {m : List Ob} {us : List Up} {f : Bool} (h : tryE s l m us f = 0) (hm : ∃ u ∈ us, u.old ≠ u.new) : tryE (takeRes s m) (runL l us) m us f = 4 := by
  obtain ⟨h1, h2, h3⟩ := tryE_iff.1 h
  obtain ⟨b1, b2⟩ := add_again h2
  unfold tryE
  rw [if_neg (fun q => q h1), if_neg (fun q => q b1), b2]
  exact apply_again h3 hm

/-- a push, as a value. -/
abbrev pushV (am : Option Addr) (nm cm : Nat) (au : Option Addr) (nu cu : Nat) (f : Bool) : Value := .agg #[.slice am nm cm, .slice au nu cu, .bool f]

set_option maxHeartbeats 2000000 in
theorem pcheck_any (am : Option Addr) (cm : Nat) (m : List Ob) (au : Option Addr) (cu : Nat) (us : List Up) (f : Bool) (w : World) (hg : Glob w) (hm : HoldsS w am m) (hml : m.length ≤ 9223372036854775807) (hu : HoldsU w au us) (hul : us.length ≤ 9223372036854775807) :
    Calls Tryz.prog 42 #[pushV am m.length cm au us.length cu f] w fun e w' => e = .returned (.int .i64 (pushE m us)) ∧ Below w.heap.size w w' := by
  have hA := below_alloc w (.cells #[.slice am m.length cm, .slice au us.length cu, .bool f] 40)
  have hbk := heap_alloc_new w (.cells #[.slice am m.length cm, .slice au us.length cu, .bool f] 40)
  obtain ⟨y0, y1, y2⟩ := c3_of hbk
  by_cases h12 : 12 < m.length
  · have HR : Hid (2 = pushE m us) := by unfold Hid pushE; rw [if_pos h12]
    have z1 : (12 : Int) < (m.length : Int) := by omega
    clear h12
    go_enter Tryz.func42, Tryz.ntmps42
    go_wp2
    go_ret
    exact ⟨ret_int HR.out, hA⟩
  have HP : Hid (pushE m us = if eachE m ≠ 0 then eachE m else checkU us) := by unfold Hid pushE; rw [if_neg h12]
  have z1 : ¬ (12 : Int) < (m.length : Int) := by omega
  have hgA := hg.below hA
  have hmA := hm.below hA
  have huA := hu.below hA
  go_enter Tryz.func42, Tryz.ntmps42
  go_wp2
  generalize w.alloc (.cells #[.slice am m.length cm, .slice au us.length cu, .bool f] 40) = W at *
  obtain ⟨B, hBe⟩ : ∃ B, B = w.heap.size := ⟨_, rfl⟩
  rw [← hBe] at y0 y1 y2 hbk
  rw [← hBe]
  have hBl := heap_lt hbk
  clear hBe hbk
  go_loopw [13] (fun i wr => ∃ k : Nat, i = .int .i64 k ∧ k ≤ m.length ∧ Below W.heap.size W wr ∧ Hid (eachE m = eachE (m.drop k))) (fun i _ => m.length - (intOf i).toNat)
  case atStart => exact ⟨0, rfl, Nat.zero_le _, Below.refl _ _, rfl⟩
  case round =>
    obtain ⟨k, rfl, hk, hBr, H⟩ := hrel
    have hBw := hA.trans (hBr.mono hA.size)
    by_cases hlt : k < m.length
    · obtain ⟨b, off, rfl, hb, hc⟩ := (hmA.below hBr) k hlt
      obtain ⟨sa, sc, x0, x1, x2, x3, x4, x5⟩ := hc k hlt
      clear hc
      have hA2 := below_alloc wr (.cells #[.int .i64 m[k].id, .int .i64 m[k].kind, .slice sa m[k].links.length sc, .string m[k].text] 47)
      have hck := check_any m[k].id m[k].kind sa sc m[k].links m[k].text _ (x4.below hA2) x5
      go_wp2_with fail
      refine hck.mono ?_
      clear hck
      rintro e w1 ⟨rfl, hb1⟩
      have hB1 := (hBr.trans (hA2.mono hBr.size)).trans (hb1.mono (by have := hBr.size; have := hA2.size; omega))
      have hBw1 := hA.trans (hB1.mono hA.size)
      clear hb1 hA2 x0 x1 x2 x3 x4 hBr hBw
      by_cases hz : m[k].err = 0
      · have HN : Hid (eachE m = eachE (m.drop (k + 1))) := ee_next hlt H.out hz
        rw [show checkE m[k].id m[k].kind m[k].links m[k].text.size = 0 from hz]
        clear hz
        go_wp2
        go_roundw
        case rel => exact ⟨k + 1, by go_num, by omega, hB1, HN⟩
        case measure => simp [intOf]; omega
      · have HR : Hid (pushE m us = m[k].err) := by
          have e := ee_bad hlt H.out hz
          unfold Hid
          rw [HP.out, e, if_pos hz]
        have hz' : (checkE m[k].id m[k].kind m[k].links m[k].text.size != 0) = true := by simpa using hz
        clear hz
        go_wp2
        go_ret
        exact ⟨ret_int HR.out.symm, hBw1⟩
    · have HE : Hid (pushE m us = checkU us) := by
        have e := ee_end hlt H.out
        unfold Hid
        rw [HP.out, if_neg (fun q => q e)]
      have x1 := (hBr.cell (p := ⟨B, 1, none⟩) hBl).trans y1
      have huc := ucheck_any au cu us wr (hgA.below hBr) (huA.below hBr) hul
      go_wp2_with fail
      refine huc.mono ?_
      clear huc
      rintro e w1 ⟨rfl, hb1⟩
      have hBw1 := hBw.trans (hb1.mono hBw.size)
      clear hb1 hBw x1
      go_wp2
      go_ret
      exact ⟨ret_int HE.out.symm, hBw1⟩

/-- a replica, as a value. -/
abbrev replV (aS : Option Addr) (ns cs : Nat) (al : Option Addr) (nl cl : Nat) (g ph : Int) (a1 : Option Addr) (n1 c1 : Nat) (a2 : Option Addr) (n2 c2 : Nat) (f : Bool) : Value := .agg #[.slice aS ns cs, .slice al nl cl, .int .i64 g, .int .i64 ph, .slice a1 n1 c1, .slice a2 n2 c2, .bool f]
/-- what Try hands back. -/
def TryPost (s : List Ob) (l : List Rf) (m : List Ob) (us : List Up) (f : Bool) (w : World) (e : Ending) (w' : World) : Prop :=
  Below w.heap.size w w' ∧ ((tryE s l m us f ≠ 0 ∧ e = .returned (.tuple #[.slice none 0 0, .slice none 0 0, .int .i64 (tryE s l m us f)])) ∨
    (tryE s l m us f = 0 ∧ ∃ a c a' c', e = .returned (.tuple #[.slice a (takeRes s m).length c, .slice a' (runL l us).length c', .int .i64 0]) ∧ HoldsS w' a (takeRes s m) ∧ Room w' a (takeRes s m) ∧ HoldsR w' a' (runL l us)))
theorem TryPost.bad {s : List Ob} {l : List Rf} {m : List Ob} {us : List Up} {f : Bool} {w w' : World} {r : Int} (hr : tryE s l m us f = r) (h0 : r ≠ 0) (hb : Below w.heap.size w w') : TryPost s l m us f w (.returned (.tuple #[.slice none 0 0, .slice none 0 0, .int .i64 r])) w' :=
  ⟨hb, .inl ⟨by rw [hr]; exact h0, by rw [hr]⟩⟩

set_option maxHeartbeats 2000000 in
theorem try_any (aS : Option Addr) (cs : Nat) (s : List Ob) (al : Option Addr) (cl : Nat) (l : List Rf) (g ph : Int) (a1 : Option Addr) (n1 c1 : Nat) (a2 : Option Addr) (n2 c2 : Nat) (f0 : Bool) (am : Option Addr) (cm : Nat) (m : List Ob) (au : Option Addr) (cu : Nat) (us : List Up) (f : Bool) (w : World) (hg : Glob w)
    (hs : HoldsS w aS s) (hsl : s.length ≤ 9223372036854775807) (hl : HoldsR w al l) (hll : l.length ≤ 9223372036854775807) (hm : HoldsS w am m) (hml : m.length ≤ 9223372036854775807) (hu : HoldsU w au us) (hul : us.length ≤ 9223372036854775807) :
    Calls Tryz.prog 19 #[replV aS s.length cs al l.length cl g ph a1 n1 c1 a2 n2 c2 f0, pushV am m.length cm au us.length cu f] w (TryPost s l m us f w) := by
  have HE : Hid (tryE s l m us f = if pushE m us ≠ 0 then pushE m us else if addE s m ≠ 0 then addE s m else applyE l (takeRes s m) us f) := rfl
  have hB := below_alloc2 w (.cells #[.slice aS s.length cs, .slice al l.length cl, .int .i64 g, .int .i64 ph, .slice a1 n1 c1, .slice a2 n2 c2, .bool f0] 42) (.cells #[.slice am m.length cm, .slice au us.length cu, .bool f] 40)
  have hA2 := below_alloc (w.alloc (.cells #[.slice aS s.length cs, .slice al l.length cl, .int .i64 g, .int .i64 ph, .slice a1 n1 c1, .slice a2 n2 c2, .bool f0] 42)) (.cells #[.slice am m.length cm, .slice au us.length cu, .bool f] 40)
  have hk2 : ((w.alloc (.cells #[.slice aS s.length cs, .slice al l.length cl, .int .i64 g, .int .i64 ph, .slice a1 n1 c1, .slice a2 n2 c2, .bool f0] 42)).alloc (.cells #[.slice am m.length cm, .slice au us.length cu, .bool f] 40)).heap[w.heap.size + 1]? = some (.cells #[.slice am m.length cm, .slice au us.length cu, .bool f] 40) := by
    have := heap_alloc_new (w.alloc (.cells #[.slice aS s.length cs, .slice al l.length cl, .int .i64 g, .int .i64 ph, .slice a1 n1 c1, .slice a2 n2 c2, .bool f0] 42)) (.cells #[.slice am m.length cm, .slice au us.length cu, .bool f] 40)
    rwa [show (w.alloc (.cells #[.slice aS s.length cs, .slice al l.length cl, .int .i64 g, .int .i64 ph, .slice a1 n1 c1, .slice a2 n2 c2, .bool f0] 42)).heap.size = w.heap.size + 1 by simp] at this
  have hk1 : ((w.alloc (.cells #[.slice aS s.length cs, .slice al l.length cl, .int .i64 g, .int .i64 ph, .slice a1 n1 c1, .slice a2 n2 c2, .bool f0] 42)).alloc (.cells #[.slice am m.length cm, .slice au us.length cu, .bool f] 40)).heap[w.heap.size]? = some (.cells #[.slice aS s.length cs, .slice al l.length cl, .int .i64 g, .int .i64 ph, .slice a1 n1 c1, .slice a2 n2 c2, .bool f0] 42) := (hA2.block _ (by simp)).trans (heap_alloc_new w _)
  obtain ⟨y0, y1, y2⟩ := c3_of hk2
  have hpc := pcheck_any am cm m au cu us f _ (hg.below hB) (hm.below hB) hml (hu.below hB) hul
  clear hA2
  go_enter Tryz.func19, Tryz.ntmps19
  go_wp2_with fail
  refine hpc.mono ?_
  clear hpc
  rintro e w1 ⟨rfl, hb1⟩
  have hB1 := hB.trans (hb1.mono hB.size)
  have hk21 := (hb1.block _ (heap_lt hk2)).trans hk2
  have hk11 := (hb1.block _ (heap_lt hk1)).trans hk1
  clear hb1 hB hk2 hk1 y0 y1 y2
  by_cases k1 : pushE m us = 0
  case neg =>
    have HR : Hid (tryE s l m us f = pushE m us) := by unfold Hid; rw [HE.out, if_pos k1]
    have HF : Hid (TryPost s l m us f w (.returned (.tuple #[.slice none 0 0, .slice none 0 0, .int .i64 (pushE m us)])) w1) := TryPost.bad HR.out k1 hB1
    have z1 : (pushE m us != 0) = true := by simpa using k1
    clear k1 hk21 hk11
    go_wp2
    refine bodyPost_ret (v := .tuple #[.slice none 0 0, .slice none 0 0, .int .i64 (pushE m us)]) (by simp [results, Tryz.results19, go_sem]) rfl ?_
    exact HF.out
  have HE1 : Hid (tryE s l m us f = if addE s m ≠ 0 then addE s m else applyE l (takeRes s m) us f) := by unfold Hid; rw [HE.out, if_neg (fun e => e k1)]
  rw [k1]
  clear k1 HE
  have r0 : w1.cell? ⟨w.heap.size, 0, none⟩ = some (.slice aS s.length cs) := by rw [cell_of_row w1 _ _ _ _ _ hk11]; rfl
  obtain ⟨y0, y1, y2⟩ := c3_of hk21
  have had := add_any aS cs s am cm m w1 (hs.below hB1) hsl (hm.below hB1) hml
  go_wp2_with fail
  refine had.mono ?_
  clear had
  rintro e w2 ⟨hb2, hpost⟩
  have hB2 := hB1.trans (hb2.mono hB1.size)
  have hk22 := (hb2.block _ (heap_lt hk21)).trans hk21
  have hk12 := (hb2.block _ (heap_lt hk11)).trans hk11
  clear hb2 hB1 hk21 hk11 r0 y0 y1 y2
  rcases hpost with ⟨hne, rfl⟩ | ⟨hz, a3, c3, rfl, hS3, hlc3, hR3⟩
  · have HR : Hid (tryE s l m us f = addE s m) := by unfold Hid; rw [HE1.out, if_pos hne]
    have HF : Hid (TryPost s l m us f w (.returned (.tuple #[.slice none 0 0, .slice none 0 0, .int .i64 (addE s m)])) w2) := TryPost.bad HR.out hne hB2
    have z1 : (addE s m != 0) = true := by simpa using hne
    clear hne hk22 hk12
    go_wp2
    refine bodyPost_ret (v := .tuple #[.slice none 0 0, .slice none 0 0, .int .i64 (addE s m)]) (by simp [results, Tryz.results19, go_sem]) rfl ?_
    exact HF.out
  have HE2 : Hid (tryE s l m us f = applyE l (takeRes s m) us f) := by unfold Hid; rw [HE1.out, if_neg (fun e => e hz)]
  have hR40 : (takeRes s m).length ≤ 9223372036854775807 := by have := (checkS_zero (addE_zero hz).2.2.2.2).1; omega
  clear hz HE1 hlc3
  obtain ⟨A, hA⟩ : ∃ A, A = takeRes s m := ⟨_, rfl⟩
  have HA : Hid (A = takeRes s m) := hA
  rw [← hA] at hS3 hR3 hR40 HE2
  rw [← hA]
  clear hA
  have r1 : w2.cell? ⟨w.heap.size, 1, none⟩ = some (.slice al l.length cl) := by rw [cell_of_row w2 _ _ _ _ _ hk12]; rfl
  obtain ⟨y0, y1, y2⟩ := c3_of hk22
  have hap := apply_any al cl l a3 c3 A au cu us f w2 (hg.below hB2) (hl.below hB2) hll hS3 hR3 hR40 (hu.below hB2) hul
  go_wp2_with fail
  refine hap.mono ?_
  clear hap
  rintro e w3 ⟨hb3, hpost⟩
  have hB3 := hB2.trans (hb3.mono hB2.size)
  have hS4 := hS3.below hb3
  have hR4 := hR3.below hb3
  clear hb3 hB2 hk22 hk12 r1 y0 y1 y2 hS3 hR3
  rcases hpost with ⟨hne, rfl⟩ | ⟨hz, a5, c5, rfl, hL5, -⟩
  · have HF : Hid (TryPost s l m us f w (.returned (.tuple #[.slice none 0 0, .slice none 0 0, .int .i64 (applyE l A us f)])) w3) := TryPost.bad HE2.out hne hB3
    have z1 : (applyE l A us f != 0) = true := by simpa using hne
    clear hne
    go_wp2
    refine bodyPost_ret (v := .tuple #[.slice none 0 0, .slice none 0 0, .int .i64 (applyE l A us f)]) (by simp [results, Tryz.results19, go_sem]) rfl ?_
    exact HF.out
  · have HF : Hid (TryPost s l m us f w (.returned (.tuple #[.slice a3 A.length c3, .slice a5 (runL l us).length c5, .int .i64 0])) w3) :=
      ⟨hB3, .inr ⟨HE2.out.trans hz, a3, c3, a5, c5, by rw [← HA.out], by rw [← HA.out]; exact hS4, by rw [← HA.out]; exact hR4, hL5⟩⟩
    clear hz hS4 hR4 hL5
    go_wp2
    refine bodyPost_ret (v := .tuple #[.slice a3 A.length c3, .slice a5 (runL l us).length c5, .int .i64 0]) (by simp [results, Tryz.results19, go_sem]) rfl ?_
    exact HF.out
end

section
open Go.RowKit
set_option maxRecDepth 100000

def hasO (l : List Ob) (id : Int) : Bool := decide (0 ≤ placeI l id)
theorem hasO_iff {l : List Ob} {id : Int} : hasO l id = true ↔ ∃ x ∈ l, x.id = id := by unfold hasO; rw [decide_eq_true_eq]; exact place_mem
/-- one id is asked for. -/
def askOne (s m : List Ob) (q : List Int) (id : Int) : List Int := if (!hasO s id && !hasO m id && !decide (id ∈ q)) = true then q ++ [id] else q
def askAll (s m : List Ob) : List Int → List Int → List Int
  | q, [] => q
  | q, i :: is => askAll s m (askOne s m q i) is
theorem askAll_append (s m : List Ob) : ∀ (a b q : List Int), askAll s m q (a ++ b) = askAll s m (askAll s m q a) b
  | [], _, _ => rfl
  | _ :: a, b, _ => askAll_append s m a b _
theorem askOne_length (s m : List Ob) (q : List Int) (i : Int) : (askOne s m q i).length ≤ q.length + 1 := by
  unfold askOne; split
  · simp
  · omega
theorem askAll_length (s m : List Ob) : ∀ (is q : List Int), (askAll s m q is).length ≤ q.length + is.length
  | [], _ => by simp [askAll]
  | i :: is, q => by
    have h1 := askAll_length s m is (askOne s m q i)
    have h2 := askOne_length s m q i
    rw [askAll, List.length_cons]; omega
/-- what is asked for is nowhere, and no id stands twice. -/
def Asked (s m : List Ob) (q : List Int) : Prop := (∀ i ∈ q, hasO s i = false ∧ hasO m i = false) ∧ q.Nodup
theorem askOne_asked {s m : List Ob} {q : List Int} {i : Int} (h : Asked s m q) : Asked s m (askOne s m q i) := by
  unfold askOne
  split
  · rename_i c
    simp only [Bool.and_eq_true, Bool.not_eq_true', decide_eq_false_iff_not] at c
    refine ⟨fun j hj => ?_, ?_⟩
    · rcases List.mem_append.1 hj with hj | hj
      · exact h.1 j hj
      · rw [List.mem_singleton.1 hj]; exact c.1
    · rw [List.nodup_append]
      refine ⟨h.2, by simp, fun a ha b hb e => ?_⟩
      rw [List.mem_singleton.1 hb] at e
      rw [e] at ha
      exact c.2 ha
  · exact h
theorem askAll_asked {s m : List Ob} : ∀ (is : List Int) {q : List Int}, Asked s m q → Asked s m (askAll s m q is)
  | [], _, h => h
  | _ :: is, _, h => askAll_asked is (askOne_asked h)
theorem askAll_none {s m : List Ob} : ∀ (is q : List Int), (∀ i ∈ is, hasO s i = true ∨ hasO m i = true) → askAll s m q is = q
  | [], _, _ => rfl
  | i :: is, q, h => by
    have e : askOne s m q i = q := by
      unfold askOne
      rw [if_neg]
      rcases h i (by simp) with c | c <;> rw [c] <;> simp
    rw [askAll, e]
    exact askAll_none is q (fun j hj => h j (by simp [hj]))
def linksOf : List Ob → List Int
  | [] => []
  | x :: m => x.links ++ linksOf m
def newsOf : List Up → List Int
  | [] => []
  | u :: us => (if u.new = 0 then [] else [u.new]) ++ newsOf us
theorem linksOf_append : ∀ (a b : List Ob), linksOf (a ++ b) = linksOf a ++ linksOf b
  | [], _ => rfl
  | x :: a, b => by rw [List.cons_append, linksOf, linksOf, linksOf_append a b, List.append_assoc]
theorem newsOf_append : ∀ (a b : List Up), newsOf (a ++ b) = newsOf a ++ newsOf b
  | [], _ => rfl
  | x :: a, b => by rw [List.cons_append, newsOf, newsOf, newsOf_append a b, List.append_assoc]
theorem linksOf_mem {i : Int} : ∀ {m : List Ob}, i ∈ linksOf m ↔ ∃ x ∈ m, i ∈ x.links
  | [] => by simp [linksOf]
  | x :: m => by
    rw [linksOf, List.mem_append, linksOf_mem]
    simp
theorem newsOf_mem {i : Int} : ∀ {us : List Up}, i ∈ newsOf us → ∃ u ∈ us, u.new ≠ 0 ∧ u.new = i
  | [], h => by cases h
  | u :: us, h => by
    rw [newsOf, List.mem_append] at h
    rcases h with h | h
    · split at h
      · cases h
      · rename_i c
        exact ⟨u, by simp, c, (List.mem_singleton.1 h).symm⟩
    · obtain ⟨v, hv, e⟩ := newsOf_mem h
      exact ⟨v, by simp [hv], e⟩
theorem linksOf_length : ∀ (m : List Ob), (∀ x ∈ m, x.links.length ≤ 4) → (linksOf m).length ≤ m.length * 4
  | [], _ => by simp [linksOf]
  | x :: m, h => by
    have h1 := linksOf_length m (fun y hy => h y (by simp [hy]))
    have h2 := h x (by simp)
    rw [linksOf, List.length_append, List.length_cons]; omega
theorem newsOf_length : ∀ (us : List Up), (newsOf us).length ≤ us.length
  | [] => by simp [newsOf]
  | u :: us => by
    have h1 := newsOf_length us
    rw [newsOf, List.length_append, List.length_cons]
    split <;> simp <;> omega
/-- what a push needs, as it comes up. -/
def needL (s m : List Ob) (us : List Up) : List Int := askAll s m (askAll s m [] (linksOf m)) (newsOf us)
def needsL (s m : List Ob) (us : List Up) : List Int := (needL s m us).mergeSort (fun x y => decide (x ≤ y))
def needsE (s m : List Ob) (us : List Up) : Int := if checkS s ≠ 0 then checkS s else pushE m us
theorem needsE_iff {s m : List Ob} {us : List Up} : needsE s m us = 0 ↔ checkS s = 0 ∧ pushE m us = 0 := by
  unfold needsE
  constructor
  · intro h
    split at h
    · rename_i c; exact absurd h c
    rename_i c
    exact ⟨Classical.byContradiction c, h⟩
  · rintro ⟨h1, h2⟩
    rw [if_neg (fun e => e h1), h2]
theorem needL_asked (s m : List Ob) (us : List Up) : Asked s m (needL s m us) := askAll_asked _ (askAll_asked _ ⟨(fun _ h => by cases h), List.nodup_nil⟩)
theorem needs_mem {s m : List Ob} {us : List Up} {i : Int} (h : i ∈ needsL s m us) : placeI s i = -1 ∧ placeI m i = -1 := by
  have h1 := (needL_asked s m us).1 i ((List.mergeSort_perm _ _).mem_iff.1 h)
  refine ⟨?_, ?_⟩
  · rcases placeI_cases s i with c | ⟨k, c, _⟩
    · exact c
    · have := h1.1; unfold hasO at this; rw [c] at this; simp at this
  · rcases placeI_cases m i with c | ⟨k, c, _⟩
    · exact c
    · have := h1.2; unfold hasO at this; rw [c] at this; simp at this
theorem needs_rise (s m : List Ob) (us : List Up) : (needsL s m us).Pairwise (fun x y => x < y) := by
  have h1 : (needsL s m us).Pairwise (fun x y => decide (x ≤ y) = true) := List.pairwise_mergeSort (fun a b c h1 h2 => by simp at *; omega) (fun a b => by simp; omega) _
  have h2 : (needsL s m us).Nodup := (List.mergeSort_perm _ _).nodup_iff.2 (needL_asked s m us).2
  have := List.Pairwise.and h1 h2
  exact this.imp fun q => by have := q.1; have := q.2; simp at *; omega
theorem needs_length {s m : List Ob} {us : List Up} (h : pushE m us = 0) : (needL s m us).length ≤ 100 := by
  obtain ⟨h1, h2, h3⟩ := pushE_iff.1 h
  have a1 := linksOf_length m (fun x hx => (checkE_zero (eachE_all h2 x hx)).2.2.1)
  have a2 := newsOf_length us
  have a3 := (checkU_iff.1 h3).2.1
  have a4 := askAll_length s m (newsOf us) (askAll s m [] (linksOf m))
  have a5 := askAll_length s m (linksOf m) []
  unfold needL
  simp at a5
  omega
/-- A PUSH THAT NEEDS SOMETHING IS REFUSED. -/
theorem try_needs {s : List Ob} {l : List Rf} {m : List Ob} {us : List Up} {f : Bool} (h : tryE s l m us f = 0) (t : List Ob) (ht : ∀ x ∈ takeRes s m, hasO t x.id = true ∨ hasO m x.id = true) : needsL t m us = [] := by
  obtain ⟨h1, h2, h3⟩ := tryE_iff.1 h
  obtain ⟨a1, a2, a3, a4, a5⟩ := addE_zero h2
  have key : ∀ i, (∃ x ∈ takeRes s m, x.id = i) → hasO t i = true ∨ hasO m i = true := fun i ⟨x, hx, e⟩ => by rw [← e]; exact ht x hx
  have e1 : askAll t m [] (linksOf m) = [] := askAll_none _ _ fun i hi => by
    obtain ⟨x, hx, hxi⟩ := linksOf_mem.1 hi
    obtain ⟨z, hz, ez⟩ := right_there a5 x (takeRes_new a4 x hx) i hxi
    exact key i ⟨z, hz, ez⟩
  have e2 : askAll t m [] (newsOf us) = [] := askAll_none _ _ fun i hi => by
    obtain ⟨u, hu, hz, e⟩ := newsOf_mem hi
    obtain ⟨q1, q2, q3, q4⟩ := applyE_iff.1 h3
    obtain ⟨c1, c2, c3, c4⟩ := checkU_iff.1 q2
    have hd := (runE_iff us (fun u hu => (c3 u hu).name) c4 (refs_sort q1)).1 q3 u hu
    obtain ⟨x, hx, ex⟩ := (mayE_new (hd.2 hz)).1
    exact key i ⟨x, hx, by rw [ex, e]⟩
  unfold needsL needL
  rw [e1, e2]
  simp
theorem try_needs_none {s : List Ob} {l : List Rf} {m : List Ob} {us : List Up} {f : Bool} (h : tryE s l m us f = 0) : needsL s m us = [] :=
  try_needs h s fun x hx => by
    rcases takeRes_mem hx with c | c
    · exact .inl (hasO_iff.2 ⟨x, c, rfl⟩)
    · exact .inr (hasO_iff.2 ⟨x, c, rfl⟩)
theorem try_needs_then {s : List Ob} {l : List Rf} {m : List Ob} {us : List Up} {f : Bool} (h : tryE s l m us f = 0) : needsE (takeRes s m) m us = 0 ∧ needsL (takeRes s m) m us = [] := by
  obtain ⟨h1, h2, h3⟩ := tryE_iff.1 h
  exact ⟨needsE_iff.2 ⟨(addE_zero h2).2.2.2.2, h1⟩, try_needs h _ fun x hx => .inl (hasO_iff.2 ⟨x, hx, rfl⟩)⟩
end

section
open Go.RowKit
set_option maxRecDepth 100000

set_option maxHeartbeats 400000 in
theorem has1_any (x : Ob) (sa : Option Addr) (sc : Nat) (id : Int) (p : Nat) (w : World) (hp : w.cell? ⟨p, 0, none⟩ = some (.int .i64 id)) (hlt : p < w.heap.size) :
    Calls Tryz.prog 111 #[x.val sa sc, .pointer (some ⟨p, 0, none⟩)] w fun e w' => e = .returned (.bool (x.id == id)) ∧ Below w.heap.size w w' := by
  go_enter Tryz.func111, Tryz.ntmps111
  go_wp2
  go_ret
  exact ⟨rfl, below_alloc _ _⟩

set_option maxHeartbeats 400000 in
theorem indexHas_any (a : Option Addr) (c : Nat) (l : List Ob) (id : Int) (p : Nat) (w : World) (h : HoldsS w a l) (hl : l.length ≤ 9223372036854775807) (hp : w.cell? ⟨p, 0, none⟩ = some (.int .i64 id)) (hlt : p < w.heap.size) :
    Calls Tryz.prog 80 #[.slice a l.length c, .func (.func 111) #[] #[.pointer (some ⟨p, 0, none⟩)]] w fun e w' => e = .returned (.int .i64 (placeI l id)) ∧ Below w.heap.size w w' := by
  go_enter Tryz.func80, Tryz.ntmps80
  go_wp2
  go_loopw [8] (fun i wr => ∃ k : Nat, i = .int .i64 k ∧ k ≤ l.length ∧ Below w.heap.size w wr ∧ Hid (∀ j (hj : j < l.length), j < k → (l[j].id == id) = false)) (fun i _ => l.length - (intOf i).toNat)
  case atStart => exact ⟨0, rfl, Nat.zero_le _, Below.refl _ _, fun j _ h => absurd h (Nat.not_lt_zero j)⟩
  case round =>
    obtain ⟨k, rfl, hk, hB, H⟩ := hrel
    by_cases hkl : k < l.length
    · obtain ⟨b, off, rfl, hb, hc⟩ := (h.below hB) k hkl
      obtain ⟨sa, sc, x0, x1, x2, x3, x4, x5⟩ := hc k hkl
      have hpr : wr.cell? ⟨p, 0, none⟩ = some (.int .i64 id) := (hB.cell (p := ⟨p, 0, none⟩) hlt).trans hp
      clear hc
      go_wp2_with fail
      refine (has1_any l[k] sa sc id p _ hpr (Nat.lt_of_lt_of_le hlt hB.size)).mono ?_
      rintro e w1 ⟨rfl, hb1⟩
      have hB1 := hB.trans (hb1.mono hB.size)
      clear hb1 x0 x1 x2 x3 x4 hpr
      by_cases hq : (l[k].id == id) = true
      · have HR : Hid (placeI l id = k) := findIdx_hit hkl H.out hq
        rw [hq]
        clear hq
        go_wp2
        go_ret
        exact ⟨ret_int HR.out.symm, hB1⟩
      · have hq' : (l[k].id == id) = false := by simpa using hq
        have HN : Hid (∀ j (hj : j < l.length), j < k + 1 → (l[j].id == id) = false) := fun j hj hjk => by
          rcases Nat.lt_or_ge j k with h1 | h1
          · exact H.out j hj h1
          · have : j = k := by omega
            subst this
            exact hq'
        rw [hq']
        clear hq hq'
        go_wp2
        go_roundw
        case rel => exact ⟨k + 1, by go_num, by omega, hB1, HN⟩
        case measure => simp [intOf]; omega
    · have HR : Hid (placeI l id = -1) := findIdx_miss (fun j hj => H.out j hj (by omega))
      go_wp2
      go_ret
      exact ⟨ret_int HR.out.symm, hB⟩


set_option maxHeartbeats 400000 in
theorem containsHas_any (a : Option Addr) (c : Nat) (l : List Ob) (id : Int) (p : Nat) (w : World) (h : HoldsS w a l) (hl : l.length ≤ 9223372036854775807) (hp : w.cell? ⟨p, 0, none⟩ = some (.int .i64 id)) (hlt : p < w.heap.size) :
    Calls Tryz.prog 110 #[.slice a l.length c, .func (.func 111) #[] #[.pointer (some ⟨p, 0, none⟩)]] w fun e w' => e = .returned (.bool (decide (0 ≤ placeI l id))) ∧ Below w.heap.size w w' := by
  go_enter Tryz.func110, Tryz.ntmps110
  go_wp2_with fail
  refine (indexHas_any a c l id p w h hl hp hlt).mono ?_
  rintro e w1 ⟨rfl, hb⟩
  go_wp2
  go_ret
  exact ⟨rfl, hb⟩


set_option maxHeartbeats 400000 in
theorem has_any (a : Option Addr) (c : Nat) (l : List Ob) (id : Int) (w : World) (h : HoldsS w a l) (hl : l.length ≤ 9223372036854775807) :
    Calls Tryz.prog 75 #[.slice a l.length c, .int .i64 id] w fun e w' => e = .returned (.bool (hasO l id)) ∧ Below w.heap.size w w' := by
  have hmf : ∀ (fn : Fn) (first cap : Array Value) (w : World), (Instr.makeFunc fn first cap).run Tryz.prog w = .ok (.func fn first cap) w := fun _ _ _ _ => rfl
  have hA := below_alloc w (.cells #[.int .i64 id] 3)
  have hbk := heap_alloc_new w (.cells #[.int .i64 id] 3)
  have hco := containsHas_any a c l id w.heap.size _ (h.below hA) hl (c1_of hbk) (heap_lt hbk)
  go_enter Tryz.func75, Tryz.ntmps75
  go_wp2_with fail
  refine hco.mono ?_
  clear hco
  rintro e w1 ⟨rfl, hb⟩
  have hB := hA.trans (hb.mono hA.size)
  clear hA hbk hb
  go_wp2
  go_ret
  exact ⟨rfl, hB⟩

/-- append of one number onto a row of one's own; the new row is the old one's block or a new block. -/
theorem app_int (w : World) (base : Nat) (ty : TypeId) (v : Value) (n : Nat) (xs : List Value) (hown : w.ownsRow base 3 1 v n xs) (vb : Nat) (ys : Array Value) (hv : w.heap[vb]? = some (.cells ys 3)) (hys : ys.size = 1)
    (h2 : ∀ v ∈ ys.toList, v.oneCell' = true) (hn : n ≤ 1000) (hbase : base ≤ w.heap.size) :
    ∃ v' w', (Builtin.append_ #[43, 43] ty #[v, .slice (some ⟨vb, 0, none⟩) 1 1]).run Tryz.prog w = .ok v' w' ∧ w'.ownsRow base 3 1 v' (n + 1) (xs ++ ys.toList) ∧ w.grownBy w' v.ownBlock ∧ ∀ k, v'.ownBlock = some k → v.ownBlock = some k ∨ w.heap.size ≤ k := by
  obtain ⟨i0, hi0, hz0, hzs, hzb⟩ := info_parts Tryz.info3
  have hl : ys.toList.length = 1 * 1 := by rw [Array.length_toList, hys]
  have hnews := World.news_of_block hv
  obtain ⟨v', w', hr, q1, q2, _⟩ := run_append_own (P := Tryz.prog) w base 43 ty 3 i0 _ 1 8 Tryz.underlying43 hi0 hz0 hzs hzb rfl (by omega) v n xs hown ⟨vb, 0, none⟩ 1 1 ys.toList hl hnews h2 (by unfold maxLen; omega) (by omega) hbase
  refine ⟨v', w', hr, q1, q2, ?_⟩
  rcases hown.2 with ⟨rfl, rfl⟩ | ⟨g, cap, cur, rfl, hbg, hg, hnc, hcm, hcs, htake⟩
  · obtain ⟨v2, w2, hr2, p1, _, _⟩ := run_append_own (P := Tryz.prog) w w.heap.size 43 ty 3 i0 _ 1 8 Tryz.underlying43 hi0 hz0 hzs hzb rfl (by omega) _ 0 [] (World.ownsRow_nil _ _ _ _) ⟨vb, 0, none⟩ 1 1 ys.toList hl hnews h2 (by unfold maxLen; omega) (by omega) (Nat.le_refl _)
    rw [hr] at hr2
    cases hr2
    exact fun k hk => .inr (p1.lt k hk).1
  · by_cases hroom : n + 1 ≤ cap
    · have hr2 := run_append_room (P := Tryz.prog) w 43 ty 3 i0 Tryz.underlying43 hi0 g n cap cur hg ⟨vb, 0, none⟩ 1 1 ys.toList (by rw [hzs]; exact hl) hnews h2 hroom (by rw [hzs, hl]; omega)
      rw [hr] at hr2
      cases hr2
      exact fun k hk => .inl hk
    · have hr2 := run_append_grow (P := Tryz.prog) w 43 ty 3 i0 _ Tryz.underlying43 hi0 hz0 ⟨g, 0, none⟩ n cap xs (by rw [hzs]; exact hown.1) (hown.cells (g := g) rfl) ⟨vb, 0, none⟩ 1 1 ys.toList (by rw [hzs]; exact hl) hnews (by omega) (by omega) (by rw [hzb]; exact growslice_fits (by omega) (by omega))
      rw [hr] at hr2
      cases hr2
      exact fun k hk => .inr (by simp [Value.ownBlock] at hk; omega)

/-- a need at q: its row lies above base. -/
structure Need (base : Nat) (w : World) (q : Nat) (v : Value) (l : List Int) (x0 x1 : Value) : Prop where
  blk : w.heap[q]? = some (.cells #[x0, x1, v] 81)
  le : base ≤ q
  own : w.ownsRow base 3 1 v l.length (l.map (Value.int .i64))
  ne : v.ownBlock ≠ some q
theorem Need.lt {base : Nat} {w : World} {q : Nat} {v : Value} {l : List Int} {x0 x1 : Value} (h : Need base w q v l x0 x1) : q < w.heap.size := heap_lt h.blk
theorem Need.below {base : Nat} {w w' : World} {q : Nat} {v : Value} {l : List Int} {x0 x1 : Value} (h : Need base w q v l x0 x1) (hb : Below w.heap.size w w') : Need base w' q v l x0 x1 :=
  ⟨(hb.block q h.lt).trans h.blk, h.le, ownsRow_kept h.own (fun g hg => hb.block g (h.own.lt g hg).2), h.ne⟩
theorem Need.next {base : Nat} {w w1 w2 : World} {q : Nat} {v v' : Value} {l l' : List Int} {x0 x1 : Value} (h : Need base w q v l x0 x1) (hb : Below w.heap.size w w1) (hg : w1.grownBy w2 v.ownBlock) (ho : w2.ownsRow base 3 1 v' l'.length (l'.map (Value.int .i64))) (hk : v'.ownBlock ≠ some q) :
    Need base (w2.setCell ⟨q, 2, none⟩ v') q v' l' x0 x1 ∧ Below base w (w2.setCell ⟨q, 2, none⟩ v') ∧ ∀ k, k < w.heap.size → k ≠ q → v.ownBlock ≠ some k → (w2.setCell ⟨q, 2, none⟩ v').heap[k]? = w.heap[k]? := by
  have h1 := h.below hb
  have hpl := h.lt
  have hle := h.le
  have hbp : w2.heap[q]? = some (.cells #[x0, x1, v] 81) := (hg.block q h1.lt (fun e => h.ne e.symm)).trans h1.blk
  have hoth : ∀ k, k ≠ q → (w2.setCell ⟨q, 2, none⟩ v').heap[k]? = w2.heap[k]? := fun k hk => heap_setCell_other w2 ⟨q, 2, none⟩ k v' hk
  have hsz : (w2.setCell ⟨q, 2, none⟩ v').heap.size = w2.heap.size := World.size_setCell _ _ _
  have hs1 := hb.size
  have hs2 := hg.size
  refine ⟨⟨?_, h.le, ?_, hk⟩, ?_, fun k hk1 hk2 hk3 => ?_⟩
  · have := heap_setCell_same w2 q 2 #[x0, x1, v] 81 v' hbp
    simpa using this
  · exact ownsRow_kept ho (fun g e => hoth g (fun q => hk (by rw [← q]; exact e)))
  · refine ⟨hg.os.trans hb.os, hg.tape.trans hb.tape, hg.output.trans hb.output, by omega, fun k hk' => ?_⟩
    rw [hoth k (by omega), hg.block k (by omega) (fun e => by have := (h.own.lt k e.symm).1; omega)]
    exact hb.block k (by omega)
  · rw [hoth k hk2, hg.block k (by omega) (fun e => hk3 e.symm)]
    exact hb.block k hk1

theorem ownI_reads {w : World} {base : Nat} {v : Value} {xs : List Int} (h : w.ownsRow base 3 1 v xs.length (xs.map (Value.int .i64))) : ∃ a c, v = .slice a xs.length c ∧ Holds w a xs := by
  rcases h.2 with ⟨rfl, e⟩ | ⟨g, cap, cur, rfl, h1, h2, h3, h4, h5, h6⟩
  · rw [e]
    exact ⟨none, 0, rfl, fun i hi => by omega⟩
  · refine ⟨_, _, rfl, fun i hi => ⟨g, 0, rfl, heap_lt h2, fun k hk => ?_⟩⟩
    have hc : cur[k]? = (xs.map (Value.int .i64))[k]? := by rw [← h6, List.getElem?_take, if_pos (by omega)]; simp
    rw [cell_of_row w g _ _ _ _ h2, Nat.zero_add, hc, List.getElem?_map, List.getElem?_eq_getElem hk]
    simp [hk]

/-- where ids lie that are asked for: not in the need, nor in its row. -/
def Off (w : World) (q : Nat) (v : Value) (ai : Option Addr) (ids : List Int) : Prop := Holds w ai ids ∧ ∀ b off, ai = some ⟨b, off, none⟩ → 0 < ids.length → b ≠ q ∧ v.ownBlock ≠ some b
theorem Off.below {w w' : World} {q : Nat} {v : Value} {ai : Option Addr} {ids : List Int} (h : Off w q v ai ids) (hb : Below w.heap.size w w') : Off w' q v ai ids := ⟨h.1.below hb, h.2⟩

set_option maxHeartbeats 4000000 in
theorem ask_any (base q : Nat) (v : Value) (l : List Int) (aS : Option Addr) (cs : Nat) (s : List Ob) (am : Option Addr) (cm : Nat) (m : List Ob) (ai : Option Addr) (ci : Nat) (ids : List Int) (w0 w : World) (hB0 : Below w0.heap.size w0 w) (hb0 : w0.heap.size ≤ base) (hs : HoldsS w0 aS s) (hsl : s.length ≤ 9223372036854775807) (hm : HoldsS w0 am m) (hml : m.length ≤ 9223372036854775807)
    (ND : Need base w q v l (.slice aS s.length cs) (.slice am m.length cm)) (hi : Off w q v ai ids) (hl : l.length + ids.length ≤ 900) :
    Calls Tryz.prog 43 #[.pointer (some ⟨q, 0, none⟩), .slice ai ids.length ci] w fun e w' => e = .returned (.tuple #[]) ∧ (∃ v', Need base w' q v' (askAll s m l ids) (.slice aS s.length cs) (.slice am m.length cm)) ∧ Below base w w' := by
  have hbw : base ≤ w.heap.size := Nat.le_of_lt (Nat.lt_of_le_of_lt ND.le ND.lt)
  go_enter Tryz.func43, Tryz.ntmps43
  go_wp2
  go_loopw [8] (fun i wr => ∃ (k : Nat) (v : Value) (L : List Int), i = .int .i64 k ∧ k ≤ ids.length ∧ L.length ≤ l.length + k ∧ Need base wr q v L (.slice aS s.length cs) (.slice am m.length cm) ∧ Off wr q v ai ids ∧ Below base w wr ∧ Hid (askAll s m l ids = askAll s m L (ids.drop k))) (fun i _ => ids.length - (intOf i).toNat)
  case atStart => exact ⟨0, v, l, rfl, Nat.zero_le _, by omega, ND, hi, Below.refl _ _, rfl⟩
  case round =>
    clear ND hi
    obtain ⟨k, v, L, rfl, hk, hLk, ND, hi, hBr, H⟩ := hrel
    have hBw := hB0.trans (hBr.mono hb0)
    have hbr : base ≤ wr.heap.size := Nat.le_trans hbw hBr.size
    by_cases hlt : k < ids.length
    · have hlt' : (k : Int) < (ids.length : Int) := by omega
      obtain ⟨b, off, rfl, hb, hc⟩ := hi.1 k hlt
      have x0 := hc k hlt
      rw [List.getD_eq_getElem?_getD, List.getElem?_eq_getElem hlt] at x0
      have x0' : wr.cell? ⟨b, off + k, none⟩ = some (.int .i64 ids[k]) := x0
      clear hc x0
      have HD : Hid (askAll s m l ids = askAll s m (askOne s m L ids[k]) (ids.drop (k + 1))) := by unfold Hid; rw [H.out, List.drop_eq_getElem_cons hlt, askAll]
      have HLn : Hid ((askOne s m L ids[k]).length ≤ l.length + (k + 1)) := by unfold Hid; have := askOne_length s m L ids[k]; omega
      obtain ⟨x, hx⟩ : ∃ x, x = ids[k] := ⟨_, rfl⟩
      rw [← hx] at x0' HD HLn
      have HO : Hid (askOne s m L x = if (!hasO s x && !hasO m x && !decide (x ∈ L)) = true then L ++ [x] else L) := rfl
      clear hx H
      obtain ⟨y0, y1, y2⟩ := c3_of ND.blk
      have hh1 := has_any aS cs s x wr (hs.below hBw) hsl
      go_wp2_with fail
      refine hh1.mono ?_
      clear hh1
      rintro e w1 ⟨rfl, hb1⟩
      have N1 := ND.below hb1
      have hi1 := hi.below hb1
      have hB1 := hBr.trans (hb1.mono hbr)
      have hBw1 := hBw.trans (hb1.mono hBw.size)
      clear hb1 ND hi hBr hBw y0 y1 y2 x0' hb hbr
      have hbr1 : base ≤ w1.heap.size := Nat.le_of_lt (Nat.lt_of_le_of_lt N1.le N1.lt)
      cases k1 : hasO s x with
      | true =>
        have HO2 : Hid (askOne s m L x = L) := by unfold Hid; rw [HO.out, k1]; rfl
        clear k1
        go_wp2
        go_roundw
        case rel => exact ⟨k + 1, v, L, by go_num, by omega, by omega, N1, hi1, hB1, by unfold Hid; rw [HD.out, HO2.out]⟩
        case measure => simp [intOf]; omega
      | false =>
      have HO1 : Hid (askOne s m L x = if (!hasO m x && !decide (x ∈ L)) = true then L ++ [x] else L) := by unfold Hid; rw [HO.out, k1]; rfl
      clear k1 HO
      obtain ⟨y0, y1, y2⟩ := c3_of N1.blk
      have hh2 := has_any am cm m x w1 (hm.below hBw1) hml
      go_wp2_with fail
      refine hh2.mono ?_
      clear hh2
      rintro e w2 ⟨rfl, hb2⟩
      have N2 := N1.below hb2
      have hi2 := hi1.below hb2
      have hB2 := hB1.trans (hb2.mono hbr1)
      have hBw2 := hBw1.trans (hb2.mono hBw1.size)
      clear hb2 N1 hi1 hB1 hBw1 y0 y1 y2 hbr1
      have hbr2 : base ≤ w2.heap.size := Nat.le_of_lt (Nat.lt_of_le_of_lt N2.le N2.lt)
      cases k2 : hasO m x with
      | true =>
        have HO2 : Hid (askOne s m L x = L) := by unfold Hid; rw [HO1.out, k2]; rfl
        clear k2
        go_wp2
        go_roundw
        case rel => exact ⟨k + 1, v, L, by go_num, by omega, by omega, N2, hi2, hB2, by unfold Hid; rw [HD.out, HO2.out]⟩
        case measure => simp [intOf]; omega
      | false =>
      have HO3 : Hid (askOne s m L x = if (!decide (x ∈ L)) = true then L ++ [x] else L) := by unfold Hid; rw [HO1.out, k2]; rfl
      clear k2 HO1
      obtain ⟨aL, cL, hv, hL⟩ := ownI_reads N2.own
      subst hv
      obtain ⟨y0, y1, y2⟩ := c3_of N2.blk
      have hh3 := contains_any aL cL L x w2 hL (by omega)
      go_wp2_with fail
      refine hh3.mono ?_
      clear hh3
      rintro e w3 ⟨rfl, hb3⟩
      have N3 := N2.below hb3
      have hi3 := hi2.below hb3
      have hB3 := hB2.trans (hb3.mono hbr2)
      clear hb3 N2 hi2 hB2 hBw2 y0 y1 y2 hL
      have hbr3 : base ≤ w3.heap.size := Nat.le_of_lt (Nat.lt_of_le_of_lt N3.le N3.lt)
      cases k3 : decide (x ∈ L) with
      | true =>
        have HO2 : Hid (askOne s m L x = L) := by unfold Hid; rw [HO3.out, k3]; rfl
        clear k3
        go_wp2
        go_roundw
        case rel => exact ⟨k + 1, _, L, by go_num, by omega, by omega, N3, hi3, hB3, by unfold Hid; rw [HD.out, HO2.out]⟩
        case measure => simp [intOf]; omega
      | false =>
      have HO2 : Hid (askOne s m L x = L ++ [x]) := by unfold Hid; rw [HO3.out, k3]; rfl
      clear k3 HO3
      generalize Value.slice aL L.length cL = v3 at *
      obtain ⟨y0, y1, y2⟩ := c3_of N3.blk
      have zf := f_of (o := 2) N3.blk
      have hA4 := below_alloc w3 (.cells #[.int .i64 x] 3)
      have hk4 := heap_alloc_new w3 (.cells #[.int .i64 x] 3)
      have N4 := N3.below hA4
      obtain ⟨v5, W5, hr5, ho5, hg5, hk5⟩ := app_int _ base 43 _ L.length (L.map (Value.int .i64)) N4.own w3.heap.size _ hk4 rfl (by intro u hu; simp only [List.mem_cons, List.not_mem_nil, or_false] at hu; rcases hu with rfl; rfl) (by omega) (Nat.le_trans hbr3 hA4.size)
      obtain ⟨g5, m5, c5, rfl⟩ := own_slice_g ho5
      have hne5 : (Value.slice g5 m5 c5).ownBlock ≠ some q := fun e => by
        rcases hk5 q e with z | z
        · exact N4.ne z
        · have := N4.lt; omega
      obtain ⟨N5, hB5, hoth⟩ := N3.next (l' := L ++ [x]) hA4 hg5 (by rw [List.length_append, List.map_append]; exact ho5) hne5
      have hp5 := (hg5.block _ N4.lt (fun e => N4.ne e.symm)).trans N4.blk
      have zc5 := (c3_of hp5).2.2
      have zf5 := f_of (o := 2) hp5
      have hi5 : Off (W5.setCell ⟨q, 2, none⟩ (.slice g5 m5 c5)) q (.slice g5 m5 c5) (some ⟨b, off, none⟩) ids := by
        have hbb := hi3.2 b off rfl (by omega)
        have hbl : b < w3.heap.size := by
          obtain ⟨b', off', e, hbl, _⟩ := hi3.1 k hlt
          cases e; exact hbl
        refine ⟨?_, fun b' off' e h0 => ?_⟩
        · intro i hi'
          obtain ⟨b', off', e, _, hc⟩ := hi3.1 i hi'
          cases e
          refine ⟨b, off, rfl, by have := hB5.size; omega, fun j hj => ?_⟩
          rw [World.cell?_of_block (a := ⟨b, off + j, none⟩) (hoth b hbl hbb.1 hbb.2)]
          exact hc j hj
        · cases e
          refine ⟨hbb.1, fun e => ?_⟩
          rcases hk5 b e with z | z
          · exact hbb.2 z
          · have := hA4.size; omega
      have hB6 := hB3.trans (hB5)
      have HF : Hid (_ ∧ _ ∧ _) := ⟨N5, hi5, hB6⟩
      clear N5 hB5 hoth hi5 hB6 hne5 hk5 hg5 ho5 N4 hk4 hA4 hi3 hB3 N3
      go_wp2_with (at_builtin; refine wpList_append_g (by rfl) (.tmp 41) (.tmp 43) (by rfl) _ _ (by rfl) (by rfl) hr5 ?_)
      go_roundw
      case rel => exact ⟨k + 1, _, L ++ [x], by go_num, by omega, by rw [← HO2.out]; exact HLn.out, HF.out.1, HF.out.2.1, HF.out.2.2, by unfold Hid; rw [HD.out, HO2.out]⟩
      case measure => simp [intOf]; omega
    · have HR : Hid (askAll s m l ids = L) := by unfold Hid; rw [H.out, List.drop_of_length_le (by omega)]; rfl
      go_wp2
      refine bodyPost_end (results_none rfl _ _ _) rfl ?_
      exact ⟨rfl, ⟨v, by rw [HR.out]; exact ND⟩, hBr⟩
end

section
open Go.RowKit
set_option maxRecDepth 100000

theorem putRow_blockI (w : World) (n g : Nat) (d : Array Int) (cur : Array Value) (t : TypeId) (os : Array Obj) (hg : w.heap[g]? = some (.cells cur t)) (hs : d.size ≤ cur.size) :
    ∃ cur', (Sort.grow (Sort.putRow (Value.int .i64) (Sort.ahead w n) g 0 d) os).heap[g]? = some (.cells cur' t) ∧ cur'.size = cur.size ∧ cur'.toList.take d.size = d.toList.map (Value.int .i64) := by
  refine ⟨Sort.putCells (Value.int .i64) 0 d cur, ?_, by simp [Sort.putCells], ?_⟩
  · rw [Sort.heap_grow_old _ _ (by simpa using heap_lt hg)]
    show ((w.heap.modify g (Sort.onCells (Sort.putCells (Value.int .i64) 0 d))))[g]? = _
    rw [Array.getElem?_modify, if_pos rfl, hg]
    rfl
  · apply List.ext_getElem?
    intro k
    rw [List.getElem?_take]
    by_cases hk : k < d.size
    · rw [if_pos hk]
      simp only [Sort.putCells, Array.toList_mapIdx, List.getElem?_mapIdx]
      rw [List.getElem?_eq_getElem (by rw [Array.length_toList]; omega)]
      simp [hk]
    · rw [if_neg hk, List.getElem?_eq_none (by rw [List.length_map, Array.length_toList]; omega)]
theorem putRow_grownI (w : World) (n g : Nat) (d : Array Int) (os : Array Obj) : w.grownBy (Sort.grow (Sort.putRow (Value.int .i64) (Sort.ahead w n) g 0 d) os) (some g) := by
  refine ⟨rfl, rfl, rfl, by simp, fun k hk hne => ?_⟩
  rw [Sort.heap_grow_old _ _ (by simpa using hk)]
  show ((w.heap.modify g (Sort.onCells (Sort.putCells (Value.int .i64) 0 d))))[k]? = _
  rw [Array.getElem?_modify, if_neg (fun e => hne (by rw [e]))]

theorem sortI_any (base : Nat) (v : Value) (l : List Int) (w : World) (hown : w.ownsRow base 3 1 v l.length (l.map (Value.int .i64))) (hl : l.length ≤ 900) :
    Calls Tryz.prog 45 #[v] w fun e w' => e = .returned (.tuple #[]) ∧ w'.ownsRow base 3 1 v l.length ((l.mergeSort fun x y => decide (x ≤ y)).map (Value.int .i64)) ∧ w.grownBy w' v.ownBlock := by
  by_cases h0 : l = []
  · subst h0
    obtain ⟨a, c, rfl, _⟩ := ownI_reads hown
    refine (Any.slices_Sort_int_none Tryz.lays189 a c w).mono ?_
    rintro e w' ⟨he, rfl⟩
    exact ⟨he, by simpa using hown, below_grown (Below.refl _ _)⟩
  · have hpos : 0 < l.length := List.length_pos_iff.2 h0
    obtain ⟨g, cap, cur, rfl, q1, q2, q3, q4, q5, q6⟩ : ∃ g cap cur, v = .slice (some ⟨g, 0, none⟩) l.length cap ∧ base ≤ g ∧ w.heap[g]? = some (.cells cur 3 (0, 0)) ∧ l.length ≤ cap ∧ cap ≤ maxLen ∧ cur.size = cap * 1 ∧ cur.toList.take (l.length * 1) = l.map (Value.int .i64) := by
      rcases hown.2 with ⟨_, e⟩ | h
      · omega
      · exact h
    have hH : Sort.Holds (Value.int .i64) w g 0 l.toArray := by
      intro j hj
      have hj' : j < l.length := by simpa using hj
      refine ⟨?_, f_of q2⟩
      have h2 : cur[j]? = (l.map (Value.int .i64))[j]? := by rw [← q6, List.getElem?_take, if_pos (by omega)]; simp
      rw [cell_of_row w _ _ _ _ _ q2, Nat.zero_add, h2, List.getElem?_map, List.getElem?_eq_getElem hj', getElem!_pos l.toArray j hj]
      rfl
    refine (Tryz.slices_Sort_int g 0 cap l w hH (heap_lt q2) (by omega)).mono ?_
    rintro e w' ⟨he, n, os, rfl⟩
    have hml : (l.mergeSort fun x y => decide (x ≤ y)).length = l.length := List.length_mergeSort _
    obtain ⟨cur', r1, r2, r3⟩ := putRow_blockI w n g (l.mergeSort fun x y => decide (x ≤ y)).toArray cur 3 os q2 (by rw [List.size_toArray, hml, q5]; omega)
    refine ⟨he, ⟨by rw [List.length_map, hml]; omega, .inr ⟨g, cap, cur', rfl, q1, r1, q3, q4, by rw [r2, q5], ?_⟩⟩, putRow_grownI w n g _ os⟩
    rw [List.size_toArray, hml] at r3
    rw [Nat.mul_one, r3]

theorem newsOf_one (u : Up) : newsOf [u] = if u.new = 0 then [] else [u.new] := by simp [newsOf]

set_option maxHeartbeats 1000000 in
theorem askNew_any (base q : Nat) (v : Value) (l : List Int) (aS : Option Addr) (cs : Nat) (s : List Ob) (am : Option Addr) (cm : Nat) (m : List Ob) (u : Up) (w0 w : World) (hB0 : Below w0.heap.size w0 w) (hb0 : w0.heap.size ≤ base) (hs : HoldsS w0 aS s) (hsl : s.length ≤ 9223372036854775807) (hm : HoldsS w0 am m) (hml : m.length ≤ 9223372036854775807)
    (ND : Need base w q v l (.slice aS s.length cs) (.slice am m.length cm)) (hl : l.length ≤ 800) :
    Calls Tryz.prog 44 #[.pointer (some ⟨q, 0, none⟩), u.val] w fun e w' => e = .returned (.tuple #[]) ∧ (∃ v', Need base w' q v' (askAll s m l (newsOf [u])) (.slice aS s.length cs) (.slice am m.length cm)) ∧ Below base w w' := by
  have hbw : base ≤ w.heap.size := Nat.le_of_lt (Nat.lt_of_le_of_lt ND.le ND.lt)
  have hA := below_alloc w (.cells #[.string u.name, .int .i64 u.old, .int .i64 u.new] 27)
  have hbk := heap_alloc_new w (.cells #[.string u.name, .int .i64 u.old, .int .i64 u.new] 27)
  obtain ⟨y0, y1, y2⟩ := c3_of hbk
  by_cases hz : u.new = 0
  · have HF : Hid ((∃ v', Need base (w.alloc (.cells #[.string u.name, .int .i64 u.old, .int .i64 u.new] 27)) q v' (askAll s m l (newsOf [u])) (.slice aS s.length cs) (.slice am m.length cm)) ∧ Below base w (w.alloc (.cells #[.string u.name, .int .i64 u.old, .int .i64 u.new] 27))) := by
      rw [newsOf_one, if_pos hz]
      exact ⟨⟨v, ND.below hA⟩, hA.mono hbw⟩
    have z : (u.new != 0) = false := by simpa using hz
    clear hz hA hbk ND
    go_enter Tryz.func44, Tryz.ntmps44
    go_wp2
    refine bodyPost_end (results_none rfl _ _ _) rfl ?_
    exact ⟨rfl, HF.out.1, HF.out.2⟩
  · have HN : Hid (newsOf [u] = [u.new]) := by unfold Hid; rw [newsOf_one, if_neg hz]
    have z : (u.new != 0) = true := by simpa using hz
    obtain ⟨W, hW⟩ : ∃ W, W = w.alloc (.cells #[.string u.name, .int .i64 u.old, .int .i64 u.new] 27) := ⟨_, rfl⟩
    rw [← hW] at hA hbk y0 y1 y2
    have hA2 := below_alloc W (.cells #[.int .i64 u.new] 3)
    have hBq := hA.trans (hA2.mono hA.size)
    have N2 := ND.below hBq
    have hof : Off (W.alloc (.cells #[.int .i64 u.new] 3)) q v (some ⟨W.heap.size, 0, none⟩) [u.new] := by
      refine ⟨holds_one W u.new, fun b off e _ => ?_⟩
      cases e
      have := hA.size
      refine ⟨by have := ND.lt; omega, fun e => by have := (ND.own.lt _ e).2; omega⟩
    have hask := ask_any base q v l aS cs s am cm m (some ⟨W.heap.size, 0, none⟩) 1 [u.new] w0 _ (hB0.trans (hBq.mono hB0.size)) hb0 hs hsl hm hml N2 hof (by simp; omega)
    rw [hW] at hask hBq y0 y1 y2
    rw [show (w.alloc (.cells #[.string u.name, .int .i64 u.old, .int .i64 u.new] 27)).heap.size = w.heap.size + 1 by simp] at hask
    clear hz hA hbk ND N2 hof hA2 hW
    go_enter Tryz.func44, Tryz.ntmps44
    go_wp2_with fail
    refine hask.mono ?_
    clear hask
    rintro e w1 ⟨rfl, hN1, hb1⟩
    have HF : Hid ((∃ v', Need base w1 q v' (askAll s m l (newsOf [u])) (.slice aS s.length cs) (.slice am m.length cm)) ∧ Below base w w1) := ⟨by rw [HN.out]; exact hN1, (hBq.mono hbw).trans hb1⟩
    clear hN1 hb1 hBq y0 y1 y2
    go_wp2
    refine bodyPost_end (results_none rfl _ _ _) rfl ?_
    exact ⟨rfl, HF.out.1, HF.out.2⟩

/-- what Needs hands back. -/
def NeedsPost (s m : List Ob) (us : List Up) (w : World) (e : Ending) (w' : World) : Prop :=
  Below w.heap.size w w' ∧ ((needsE s m us ≠ 0 ∧ e = .returned (.tuple #[.slice none 0 0, .int .i64 (needsE s m us)])) ∨
    (needsE s m us = 0 ∧ ∃ a c, e = .returned (.tuple #[.slice a (needsL s m us).length c, .int .i64 0]) ∧ Holds w' a (needsL s m us)))
theorem NeedsPost.bad {s m : List Ob} {us : List Up} {w w' : World} {r : Int} (hr : needsE s m us = r) (h0 : r ≠ 0) (hb : Below w.heap.size w w') : NeedsPost s m us w (.returned (.tuple #[.slice none 0 0, .int .i64 r])) w' :=
  ⟨hb, .inl ⟨by rw [hr]; exact h0, by rw [hr]⟩⟩

set_option maxHeartbeats 4000000 in
theorem needs_any (aS : Option Addr) (cs : Nat) (s : List Ob) (am : Option Addr) (cm : Nat) (m : List Ob) (au : Option Addr) (cu : Nat) (us : List Up) (f : Bool) (w : World) (hg : Glob w) (hs : HoldsS w aS s) (hsl : s.length ≤ 9223372036854775807) (hm : HoldsS w am m) (hml : m.length ≤ 9223372036854775807) (hu : HoldsU w au us) (hul : us.length ≤ 9223372036854775807) :
    Calls Tryz.prog 14 #[.slice aS s.length cs, pushV am m.length cm au us.length cu f] w (NeedsPost s m us w) := by
  have HE : Hid (needsE s m us = if checkS s ≠ 0 then checkS s else pushE m us) := rfl
  have hA := below_alloc w (.cells #[.slice am m.length cm, .slice au us.length cu, .bool f] 40)
  have hbk := heap_alloc_new w (.cells #[.slice am m.length cm, .slice au us.length cu, .bool f] 40)
  have hcs := checkS_any aS cs s _ (hs.below hA) hsl
  go_enter Tryz.func14, Tryz.ntmps14
  go_wp2_with fail
  refine hcs.mono ?_
  clear hcs
  rintro e w1 ⟨rfl, hb1⟩
  have hB1 := hA.trans (hb1.mono hA.size)
  have hk1 := (hb1.block _ (heap_lt hbk)).trans hbk
  clear hb1 hA hbk
  by_cases k1 : checkS s = 0
  case neg =>
    have HR : Hid (needsE s m us = checkS s) := by unfold Hid; rw [HE.out, if_pos k1]
    have HF : Hid (NeedsPost s m us w (.returned (.tuple #[.slice none 0 0, .int .i64 (checkS s)])) w1) := NeedsPost.bad HR.out k1 hB1
    have z1 : (checkS s != 0) = true := by simpa using k1
    clear k1 hk1
    go_wp2
    refine bodyPost_ret (v := .tuple #[.slice none 0 0, .int .i64 (checkS s)]) (by simp [results, Tryz.results14, go_sem]) rfl ?_
    exact HF.out
  have HE1 : Hid (needsE s m us = pushE m us) := by unfold Hid; rw [HE.out, if_neg (fun e => e k1)]
  rw [k1]
  clear k1 HE
  obtain ⟨y0, y1, y2⟩ := c3_of hk1
  have hpc := pcheck_any am cm m au cu us f w1 (hg.below hB1) (hm.below hB1) hml (hu.below hB1) hul
  go_wp2_with fail
  refine hpc.mono ?_
  clear hpc
  rintro e w2 ⟨rfl, hb2⟩
  have hB2 := hB1.trans (hb2.mono hB1.size)
  have hk2 := (hb2.block _ (heap_lt hk1)).trans hk1
  clear hb2 hB1 hk1 y0 y1 y2
  by_cases k2 : pushE m us = 0
  case neg =>
    have HF : Hid (NeedsPost s m us w (.returned (.tuple #[.slice none 0 0, .int .i64 (pushE m us)])) w2) := NeedsPost.bad HE1.out k2 hB2
    have z1 : (pushE m us != 0) = true := by simpa using k2
    clear k2 hk2
    go_wp2
    refine bodyPost_ret (v := .tuple #[.slice none 0 0, .int .i64 (pushE m us)]) (by simp [results, Tryz.results14, go_sem]) rfl ?_
    exact HF.out
  have HZ : Hid (needsE s m us = 0) := HE1.out.trans k2
  have HP : Hid (pushE m us = 0) := k2
  have HL4 : Hid (∀ x ∈ m, x.links.length ≤ 4) := fun x hx => (checkE_zero (eachE_all (pushE_iff.1 k2).2.1 x hx)).2.2.1
  have h12 : m.length ≤ 12 := (pushE_iff.1 k2).1
  have h4 : us.length ≤ 4 := (checkU_iff.1 (pushE_iff.1 k2).2.2).2.1
  rw [k2]
  clear k2 HE1
  obtain ⟨y0, y1, y2⟩ := c3_of hk2
  have hA3 := below_alloc w2 (.cells #[.slice aS s.length cs, .slice am m.length cm, .slice none 0 0] 81)
  have hB3 := hB2.trans (hA3.mono hB2.size)
  have N3 : Need w2.heap.size (w2.alloc (.cells #[.slice aS s.length cs, .slice am m.length cm, .slice none 0 0] 81)) w2.heap.size (.slice none 0 0) [] (.slice aS s.length cs) (.slice am m.length cm) :=
    ⟨heap_alloc_new w2 _, Nat.le_refl _, World.ownsRow_nil _ _ _ _, fun e => by cases e⟩
  have hk3 := (hA3.block _ (heap_lt hk2)).trans hk2
  obtain ⟨v0, v1, v2⟩ := c3_of hk3
  have hwl : w.heap.size < w2.heap.size := heap_lt hk2
  clear y0 y1 y2
  obtain ⟨y0, y1, y2⟩ := c3_of hk2
  go_wp2
  generalize w2.alloc (.cells #[.slice aS s.length cs, .slice am m.length cm, .slice none 0 0] 81) = W3 at *
  obtain ⟨q, hq⟩ : ∃ q, q = w2.heap.size := ⟨_, rfl⟩
  rw [← hq] at N3 hwl
  rw [← hq]
  clear hA3 hk3 hk2 y0 y1 y2 hq hB2
  go_loopw [30] (fun i wr => ∃ (k : Nat) (v : Value), i = .int .i64 k ∧ k ≤ m.length ∧ Need q wr q v (askAll s m [] (linksOf (m.take k))) (.slice aS s.length cs) (.slice am m.length cm) ∧ Below q W3 wr) (fun i _ => m.length - (intOf i).toNat)
  case atStart => exact ⟨0, _, rfl, Nat.zero_le _, N3, Below.refl _ _⟩
  case round =>
    clear N3
    obtain ⟨k, v, rfl, hk, ND, hBr⟩ := hrel
    have hBw := hB3.trans (hBr.mono (Nat.le_of_lt hwl))
    by_cases hlt : k < m.length
    · obtain ⟨b, off, rfl, hb, hc⟩ := hm k hlt
      obtain ⟨sa, sc, x0, x1, x2, x3, x4, x5⟩ := (hc k hlt).below hBw hb
      have x4w : ∀ i, i < m[k].links.length → ∃ b off, sa = some ⟨b, off, none⟩ ∧ b < w.heap.size := by
        obtain ⟨sa', sc', z0, z1, z2, z3, z4, z5⟩ := hc k hlt
        have e : (some (Value.slice sa m[k].links.length sc) : Option Value) = some (.slice sa' m[k].links.length sc') := by
          rw [← x2, hBw.cell (p := ⟨b, off + k * 4 + 2, none⟩) hb]; exact z2
        cases e
        intro i hi
        obtain ⟨b', off', e1, e2, _⟩ := z4 i hi
        exact ⟨b', off', e1, e2⟩
      clear hc
      have hA4 := below_alloc wr (.cells #[.int .i64 m[k].id, .int .i64 m[k].kind, .slice sa m[k].links.length sc, .string m[k].text] 47)
      have N4 := ND.below hA4
      have hof : Off (wr.alloc (.cells #[.int .i64 m[k].id, .int .i64 m[k].kind, .slice sa m[k].links.length sc, .string m[k].text] 47)) q v sa m[k].links := by
        refine ⟨x4.below hA4, fun b' off' e h0 => ?_⟩
        obtain ⟨b2, off2, e2, hlt2⟩ := x4w 0 h0
        rw [e] at e2
        cases e2
        exact ⟨by omega, fun e => by have := (ND.own.lt _ e).1; omega⟩
      have HLl : Hid ((askAll s m [] (linksOf (m.take k))).length ≤ 48) := by
        have h1 := askAll_length s m (linksOf (m.take k)) []
        have h2 := linksOf_length (m.take k) (fun x hx => HL4.out x (List.mem_of_mem_take hx))
        rw [List.length_take] at h2
        simp at h1
        unfold Hid
        omega
      have h4l := HL4.out m[k] (List.getElem_mem hlt)
      have hask := ask_any q q v _ aS cs s (some ⟨b, off, none⟩) cm m sa sc m[k].links w _ (hBw.trans (hA4.mono hBw.size)) (Nat.le_of_lt hwl) hs hsl hm hml N4 hof (by have := HLl.out; omega)
      have HNx : Hid (askAll s m (askAll s m [] (linksOf (m.take k))) m[k].links = askAll s m [] (linksOf (m.take (k + 1)))) := by
        unfold Hid
        rw [List.take_succ_eq_append_getElem hlt, linksOf_append, askAll_append]
        simp [linksOf]
      have hb4 : Below q W3 (wr.alloc (.cells #[.int .i64 m[k].id, .int .i64 m[k].kind, .slice sa m[k].links.length sc, .string m[k].text] 47)) := hBr.trans (hA4.mono (Nat.le_of_lt ND.lt))
      clear hof N4 hA4 ND hBr x4 x4w HLl
      go_wp2_with fail
      refine hask.mono ?_
      clear hask
      rintro e w5 ⟨rfl, ⟨v', N5⟩, hb5⟩
      have hB5 := hb4.trans hb5
      rw [HNx.out] at N5
      clear hb4 hb5 x0 x1 x2 x3
      go_wp2
      go_roundw
      case rel => exact ⟨k + 1, v', by go_num, by omega, N5, hB5⟩
      case measure => simp [intOf]; omega
    · obtain rfl : k = m.length := by omega
      rw [List.take_of_length_le (Nat.le_refl _)] at ND
      have x1 := (hBr.cell (p := ⟨w.heap.size, 1, none⟩) hwl).trans v1
      have hLb : (askAll s m [] (linksOf m)).length ≤ 48 := by
        have h1 := askAll_length s m (linksOf m) []
        have h2 := linksOf_length m HL4.out
        simp at h1
        omega
      clear v0 v1 v2 hk
      go_wp2
      go_loopw [41] (fun i wt => ∃ (k : Nat) (v : Value), i = .int .i64 k ∧ k ≤ us.length ∧ Need q wt q v (askAll s m (askAll s m [] (linksOf m)) (newsOf (us.take k))) (.slice aS s.length cs) (.slice am m.length cm) ∧ Below q W3 wt) (fun i _ => us.length - (intOf i).toNat)
      case atStart => exact ⟨0, v, rfl, Nat.zero_le _, ND, hBr⟩
      case round =>
        clear ND hBr hBw x1
        obtain ⟨k, v, rfl, hk, ND, hBr⟩ := hrel
        have hBw := hB3.trans (hBr.mono (Nat.le_of_lt hwl))
        by_cases hlt : k < us.length
        · obtain ⟨b, off, rfl, hb, hc⟩ := (hu.below hBw) k hlt
          obtain ⟨x0, x1, x2⟩ := hc k hlt
          clear hc
          have hA4 := below_alloc wr (.cells #[.string us[k].name, .int .i64 us[k].old, .int .i64 us[k].new] 27)
          have hLk : (askAll s m (askAll s m [] (linksOf m)) (newsOf (us.take k))).length ≤ 800 := by
            have h1 := askAll_length s m (newsOf (us.take k)) (askAll s m [] (linksOf m))
            have h2 := newsOf_length (us.take k)
            rw [List.length_take] at h2
            omega
          have hask := askNew_any q q v _ aS cs s am cm m us[k] w _ (hBw.trans (hA4.mono hBw.size)) (Nat.le_of_lt hwl) hs hsl hm hml (ND.below hA4) hLk
          have HNx : Hid (askAll s m (askAll s m (askAll s m [] (linksOf m)) (newsOf (us.take k))) (newsOf [us[k]]) = askAll s m (askAll s m [] (linksOf m)) (newsOf (us.take (k + 1)))) := by
            unfold Hid
            rw [List.take_succ_eq_append_getElem hlt, newsOf_append, askAll_append]
          have hb4 : Below q W3 (wr.alloc (.cells #[.string us[k].name, .int .i64 us[k].old, .int .i64 us[k].new] 27)) := hBr.trans (hA4.mono (Nat.le_of_lt ND.lt))
          clear hA4 ND hBr hLk
          go_wp2_with fail
          refine hask.mono ?_
          clear hask
          rintro e w5 ⟨rfl, ⟨v', N5⟩, hb5⟩
          have hB5 := hb4.trans hb5
          rw [HNx.out] at N5
          clear hb4 hb5 x0 x1 x2
          go_wp2
          go_roundw
          case rel => exact ⟨k + 1, v', by go_num, by omega, N5, hB5⟩
          case measure => simp [intOf]; omega
        · obtain rfl : k = us.length := by omega
          rw [List.take_of_length_le (Nat.le_refl _)] at ND
          have ND' : Need q wr q v (needL s m us) (.slice aS s.length cs) (.slice am m.length cm) := ND
          have hnl := needs_length (s := s) HP.out
          have hso := sortI_any q v (needL s m us) wr ND'.own (by omega)
          obtain ⟨y0, y1, y2⟩ := c3_of ND'.blk
          have HQ : Hid (v.ownBlock ≠ some q) := ND'.ne
          have HQb : Hid (∀ g, v.ownBlock = some g → q ≤ g) := fun g e => (ND'.own.lt g e).1
          have hblk := ND'.blk
          clear ND ND' hBr
          go_wp2_with fail
          refine hso.mono ?_
          clear hso
          rintro e w6 ⟨rfl, o6, g6⟩
          have hblk6 := (g6.block q (heap_lt hblk) (fun e => HQ.out e.symm)).trans hblk
          have hB6 : Below w.heap.size w w6 := hBw.trans ⟨g6.os, g6.tape, g6.output, g6.size, fun k hk => g6.block k (by have := hBw.size; omega) (fun e => by have := HQb.out k e.symm; omega)⟩
          have hlm : (needsL s m us).length = (needL s m us).length := List.length_mergeSort _
          have o7 : w6.ownsRow q 3 1 v (needsL s m us).length ((needsL s m us).map (Value.int .i64)) := by rw [hlm]; exact o6
          obtain ⟨a7, c7, hv7, hh7⟩ := ownI_reads o7
          subst hv7
          obtain ⟨u0, u1, u2⟩ := c3_of hblk6
          have HF : Hid (NeedsPost s m us w (.returned (.tuple #[.slice a7 (needsL s m us).length c7, .int .i64 0])) w6) := ⟨hB6, .inr ⟨HZ.out, a7, c7, rfl, hh7⟩⟩
          clear o6 o7 g6 hblk hblk6 hB6 hh7 y0 y1 y2 hBw hlm
          go_wp2
          refine bodyPost_ret (v := .tuple #[.slice a7 (needsL s m us).length c7, .int .i64 0]) (by simp [results, Tryz.results14, go_sem]) rfl ?_
          exact HF.out
end

section
open Go.RowKit
set_option maxRecDepth 100000

/-- of a block no cell holds a number but 0. -/
def Zero (W : World) (R : Nat) : Prop := ∀ off n, W.cell? ⟨R, off, none⟩ = some (.int .i64 n) → n = 0
theorem Zero.ne {W : World} {R : Nat} (h : Zero W R) {b off : Nat} {n : Int} (hc : W.cell? ⟨b, off, none⟩ = some (.int .i64 n)) (hn : n ≠ 0) : b ≠ R := fun e => hn (h off n (by rw [← e]; exact hc))
/-- a world that differs in one block. -/
structure But (R : Nat) (W W' : World) : Prop where
  size : W'.heap.size = W.heap.size
  cell : ∀ b off, b ≠ R → W'.cell? ⟨b, off, none⟩ = W.cell? ⟨b, off, none⟩
theorem But.refl (R : Nat) (W : World) : But R W W := ⟨rfl, fun _ _ _ => rfl⟩
theorem But.set {R : Nat} {W W' : World} (h : But R W W') (off : Nat) (v : Value) : But R W (W'.setCell ⟨R, off, none⟩ v) :=
  ⟨(World.size_setCell _ _ _).trans h.size, fun b o hb => (sc_other (fun e => hb (congrArg Addr.block e).symm)).trans (h.cell b o hb)⟩
theorem Holds.but {R : Nat} {W W' : World} (h : But R W W') (z : Zero W R) {a : Option Addr} {L : List Int} (hL : Holds W a L) (hn : ∀ i ∈ L, i ≠ 0) : Holds W' a L := by
  intro i hi
  obtain ⟨b, off, e, hlt, hc⟩ := hL i hi
  have hp : 0 < L.length := by omega
  have h0 := hc 0 hp
  have hne : b ≠ R := z.ne h0 (by rw [List.getD_eq_getElem?_getD, List.getElem?_eq_getElem hp]; exact hn _ (List.getElem_mem hp))
  exact ⟨b, off, e, by rw [h.size]; exact hlt, fun j hj => (h.cell b _ hne).trans (hc j hj)⟩
theorem HoldsS.but {R : Nat} {W W' : World} (h : But R W W') (z : Zero W R) {a : Option Addr} {l : List Ob} (hl : HoldsS W a l) (hn : ∀ x ∈ l, x.id ≠ 0 ∧ ∀ i ∈ x.links, i ≠ 0) : HoldsS W' a l := by
  intro i hi
  obtain ⟨b, off, e, hlt, hc⟩ := hl i hi
  refine ⟨b, off, e, by rw [h.size]; exact hlt, fun j hj => ?_⟩
  obtain ⟨sa, sc, x0, x1, x2, x3, x4, x5⟩ := hc j hj
  have hne : b ≠ R := z.ne x0 (hn _ (List.getElem_mem hj)).1
  exact ⟨sa, sc, (h.cell b _ hne).trans x0, (h.cell b _ hne).trans x1, (h.cell b _ hne).trans x2, (h.cell b _ hne).trans x3, x4.but h z (hn _ (List.getElem_mem hj)).2, x5⟩
theorem HoldsR.but {R : Nat} {W W' : World} (h : But R W W') (z : Zero W R) {a : Option Addr} {l : List Rf} (hl : HoldsR W a l) (hn : ∀ x ∈ l, x.id ≠ 0) : HoldsR W' a l := by
  intro i hi
  obtain ⟨b, off, e, hlt, hc⟩ := hl i hi
  refine ⟨b, off, e, by rw [h.size]; exact hlt, fun j hj => ?_⟩
  obtain ⟨x0, x1⟩ := hc j hj
  have hne : b ≠ R := z.ne x1 (hn _ (List.getElem_mem hj))
  exact ⟨(h.cell b _ hne).trans x0, (h.cell b _ hne).trans x1⟩
theorem HoldsU.but {R : Nat} {W W' : World} (h : But R W W') (z : Zero W R) {a : Option Addr} {l : List Up} (hl : HoldsU W a l) (hn : ∀ x ∈ l, x.new ≠ 0) : HoldsU W' a l := by
  intro i hi
  obtain ⟨b, off, e, hlt, hc⟩ := hl i hi
  refine ⟨b, off, e, by rw [h.size]; exact hlt, fun j hj => ?_⟩
  obtain ⟨x0, x1, x2⟩ := hc j hj
  have hne : b ≠ R := z.ne x2 (hn _ (List.getElem_mem hj))
  exact ⟨(h.cell b _ hne).trans x0, (h.cell b _ hne).trans x1, (h.cell b _ hne).trans x2⟩

abbrev zero42 : Obj := .cells #[.slice none 0 0, .slice none 0 0, .int .i64 0, .int .i64 0, .slice none 0 0, .slice none 0 0, .bool false] 42
abbrev zero40 : Obj := .cells #[.slice none 0 0, .slice none 0 0, .bool false] 40
theorem zero42_zero {W : World} {R : Nat} (h : W.heap[R]? = some zero42) : Zero W R := by
  intro off n hc
  rw [cell_of_row W _ _ _ _ _ h] at hc
  match off, hc with
  | 0, hc => cases hc
  | 1, hc => cases hc
  | 2, hc => cases hc; rfl
  | 3, hc => cases hc; rfl
  | 4, hc => cases hc
  | 5, hc => cases hc
  | 6, hc => cases hc
  | k + 7, hc => simp at hc
theorem zero40_zero {W : World} {R : Nat} (h : W.heap[R]? = some zero40) : Zero W R := by
  intro off n hc
  rw [cell_of_row W _ _ _ _ _ h] at hc
  match off, hc with
  | 0, hc => cases hc
  | 1, hc => cases hc
  | 2, hc => cases hc
  | k + 3, hc => simp at hc
theorem shelf_not0 : ∀ x ∈ shelfL, x.id ≠ 0 ∧ ∀ i ∈ x.links, i ≠ 0 := by decide +kernel
theorem names_not0 : ∀ x ∈ namesL, x.id ≠ 0 := by
  intro x hx
  simp only [namesL, List.mem_cons, List.not_mem_nil, or_false] at hx
  rcases hx with rfl | rfl <;> decide

set_option maxHeartbeats 1000000 in
theorem host_any (w : World) : Calls Tryz.prog 46 #[] w fun e w' => ∃ g1 g2, e = .returned (replV (some ⟨g1, 0, none⟩) 5 5 (some ⟨g2, 0, none⟩) 2 2 7 0 none 0 0 none 0 0 false) ∧ HoldsS w' (some ⟨g1, 0, none⟩) shelfL ∧ HoldsR w' (some ⟨g2, 0, none⟩) namesL ∧ Below w.heap.size w w' := by
  have hA := below_alloc w zero42
  have hbk := heap_alloc_new w zero42
  go_enter Tryz.func46, Tryz.ntmps46
  go_wp2_with fail
  refine (shelf_holds _).mono ?_
  rintro e w1 ⟨g1, rfl, hb1, h1⟩
  have hB1 := hA.trans (hb1.mono hA.size)
  have hk1 := (hb1.block _ (heap_lt hbk)).trans hbk
  clear hb1 hA hbk
  go_wp2_with fail
  refine (names_any w1).mono ?_
  rintro e w2 ⟨g2, rfl, h2, hb2⟩
  have hB2 := hB1.trans (hb2.mono hB1.size)
  have hk2 := (hb2.block _ (heap_lt hk1)).trans hk1
  have h12 := h1.below hb2
  clear hb2 hB1 hk1 h1
  have z2 := zero42_zero hk2
  have c : ∀ i v, (#[.slice none 0 0, .slice none 0 0, .int .i64 0, .int .i64 0, .slice none 0 0, .slice none 0 0, .bool false] : Array Value)[i]? = some v → w2.cell? ⟨w.heap.size, i, none⟩ = some v := fun i v h => by rw [cell_of_row w2 _ _ _ _ _ hk2]; exact h
  have c0 : w2.cell? ⟨w.heap.size, 0, none⟩ = some (.slice none 0 0) := c 0 _ rfl
  have c1 : w2.cell? ⟨w.heap.size, 1, none⟩ = some (.slice none 0 0) := c 1 _ rfl
  have c2 : w2.cell? ⟨w.heap.size, 2, none⟩ = some (.int .i64 0) := c 2 _ rfl
  have c3 : w2.cell? ⟨w.heap.size, 3, none⟩ = some (.int .i64 0) := c 3 _ rfl
  have c4 : w2.cell? ⟨w.heap.size, 4, none⟩ = some (.slice none 0 0) := c 4 _ rfl
  have c5 : w2.cell? ⟨w.heap.size, 5, none⟩ = some (.slice none 0 0) := c 5 _ rfl
  have c6 : w2.cell? ⟨w.heap.size, 6, none⟩ = some (.bool false) := c 6 _ rfl
  have f0 := f_of (o := 0) hk2
  have f1 := f_of (o := 1) hk2
  have f2 := f_of (o := 2) hk2
  have f3 := f_of (o := 3) hk2
  have f4 := f_of (o := 4) hk2
  have f5 := f_of (o := 5) hk2
  have f6 := f_of (o := 6) hk2
  have bt : But w.heap.size w2 (((((((w2.setCell ⟨w.heap.size, 0, none⟩ (.slice (some ⟨g1, 0, none⟩) 5 5)).setCell ⟨w.heap.size, 1, none⟩ (.slice (some ⟨g2, 0, none⟩) 2 2)).setCell ⟨w.heap.size, 2, none⟩ (.int .i64 7)).setCell ⟨w.heap.size, 3, none⟩ (.int .i64 0)).setCell ⟨w.heap.size, 4, none⟩ (.slice none 0 0)).setCell ⟨w.heap.size, 5, none⟩ (.slice none 0 0)).setCell ⟨w.heap.size, 6, none⟩ (.bool false)) :=
    ((((((((But.refl _ _).set _ _).set _ _).set _ _).set _ _).set _ _).set _ _).set _ _)
  have bl : Below w.heap.size w (((((((w2.setCell ⟨w.heap.size, 0, none⟩ (.slice (some ⟨g1, 0, none⟩) 5 5)).setCell ⟨w.heap.size, 1, none⟩ (.slice (some ⟨g2, 0, none⟩) 2 2)).setCell ⟨w.heap.size, 2, none⟩ (.int .i64 7)).setCell ⟨w.heap.size, 3, none⟩ (.int .i64 0)).setCell ⟨w.heap.size, 4, none⟩ (.slice none 0 0)).setCell ⟨w.heap.size, 5, none⟩ (.slice none 0 0)).setCell ⟨w.heap.size, 6, none⟩ (.bool false)) :=
    (((((((hB2.setCell (Nat.le_refl _) _).setCell (Nat.le_refl _) _).setCell (Nat.le_refl _) _).setCell (Nat.le_refl _) _).setCell (Nat.le_refl _) _).setCell (Nat.le_refl _) _).setCell (Nat.le_refl _) _)
  have HF : Hid (_ ∧ _ ∧ _) := ⟨h12.but bt z2 shelf_not0, h2.but bt z2 names_not0, bl⟩
  clear bt bl z2 hk2 hB2 h12 h2 c
  go_wp2
  refine bodyPost_ret (v := replV (some ⟨g1, 0, none⟩) 5 5 (some ⟨g2, 0, none⟩) 2 2 7 0 none 0 0 none 0 0 false) (by simp [results, Tryz.results46, go_sem, c0, c1, c2, c3, c4, c5, c6]) rfl ?_
  exact ⟨g1, g2, rfl, HF.out.1, HF.out.2.1, HF.out.2.2⟩
end

section
open Go.RowKit
set_option maxRecDepth 100000

abbrev oc : Ob := ⟨6, 3, [2, 5], tee⟩
def comeL : List Ob := [oc]
def comeU : List Up := [⟨nMain, 3, 6⟩]
theorem beg_try : tryE shelfL namesL comeL comeU false = 0 := by decide +kernel
theorem beg_res : (takeRes shelfL comeL).length = 6 := by decide +kernel
theorem beg_id : lookI (runL namesL comeU) nMain = 6 := by decide +kernel
theorem beg_needsE : needsE (shelfL.take 3) comeL comeU = 0 := by decide +kernel
theorem beg_needL : needL (shelfL.take 3) comeL comeU = [5] := by decide +kernel
theorem beg_needs : needsL (shelfL.take 3) comeL comeU = [5] := by unfold needsL; rw [beg_needL]; simp
theorem beg_push : pushE comeL comeU = 0 := by decide +kernel

theorem holds_ints (w : World) (g : Nat) (x y : Int) (h : w.heap[g]? = some (.cells #[.int .i64 x, .int .i64 y] 3)) : Holds w (some ⟨g, 0, none⟩) [x, y] := by
  intro i hi
  refine ⟨g, 0, rfl, heap_lt h, fun j hj => ?_⟩
  rw [cell_of_row w _ _ _ _ _ h]
  match j, hj with
  | 0, _ => rfl
  | 1, _ => rfl

set_option maxHeartbeats 1000000 in
theorem come_any (w : World) : Calls Tryz.prog 47 #[] w fun e w' => ∃ g1 g2, e = .returned (pushV (some ⟨g1, 0, none⟩) 1 1 (some ⟨g2, 0, none⟩) 1 1 false) ∧ HoldsS w' (some ⟨g1, 0, none⟩) comeL ∧ HoldsU w' (some ⟨g2, 0, none⟩) comeU ∧ Below w.heap.size w w' := by
  have hA := below_alloc2 w zero40 (.cells #[.int .i64 2, .int .i64 5] 3)
  have hA2 := below_alloc (w.alloc zero40) (.cells #[.int .i64 2, .int .i64 5] 3)
  have hk1 : ((w.alloc zero40).alloc (.cells #[.int .i64 2, .int .i64 5] 3)).heap[w.heap.size]? = some zero40 := (hA2.block _ (by simp)).trans (heap_alloc_new w _)
  have hk2 : ((w.alloc zero40).alloc (.cells #[.int .i64 2, .int .i64 5] 3)).heap[w.heap.size + 1]? = some (.cells #[.int .i64 2, .int .i64 5] 3) := by
    have := heap_alloc_new (w.alloc zero40) (.cells #[.int .i64 2, .int .i64 5] 3)
    rwa [show (w.alloc zero40).heap.size = w.heap.size + 1 by simp] at this
  clear hA2
  go_enter Tryz.func47, Tryz.ntmps47
  go_wp2_with fail
  refine (obj_any 6 3 (some ⟨w.heap.size + 1, 0, none⟩) 2 2 _).mono ?_
  rintro e w1 ⟨rfl, hb1⟩
  have hB1 := hA.trans (hb1.mono hA.size)
  have hk11 := (hb1.block _ (heap_lt hk1)).trans hk1
  have hk21 := (hb1.block _ (heap_lt hk2)).trans hk2
  clear hb1 hA hk1 hk2
  -- the two lists
  obtain ⟨W2, hW2⟩ : ∃ W2, W2 = w1.alloc (.cells #[.int .i64 6, .int .i64 3, .slice (some ⟨w.heap.size + 1, 0, none⟩) 2 2, .string tee] 47) := ⟨_, rfl⟩
  have hb2 : Below w1.heap.size w1 W2 := by rw [hW2]; exact below_alloc _ _
  have hk32 : W2.heap[w1.heap.size]? = some (.cells #[.int .i64 6, .int .i64 3, .slice (some ⟨w.heap.size + 1, 0, none⟩) 2 2, .string tee] 47) := by rw [hW2]; exact heap_alloc_new w1 _
  have hs2 : W2.heap.size = w1.heap.size + 1 := by rw [hW2]; simp
  have hb3 := below_alloc W2 (.cells #[.string nMain, .int .i64 3, .int .i64 6] 27)
  have hU3 := holdsU_one W2 ⟨nMain, 3, 6⟩
  have hk33 := (hb3.block _ (heap_lt hk32)).trans hk32
  have hk23 := (hb3.block _ (Nat.lt_of_lt_of_le (heap_lt hk21) hb2.size)).trans ((hb2.block _ (heap_lt hk21)).trans hk21)
  have hk13 := (hb3.block _ (Nat.lt_of_lt_of_le (heap_lt hk11) hb2.size)).trans ((hb2.block _ (heap_lt hk11)).trans hk11)
  have hB3 := (hB1.trans (hb2.mono hB1.size)).trans (hb3.mono (hB1.trans (hb2.mono hB1.size)).size)
  have hS3 : HoldsS (W2.alloc (.cells #[.string nMain, .int .i64 3, .int .i64 6] 27)) (some ⟨w1.heap.size, 0, none⟩) comeL := by
    intro i hi
    refine ⟨_, _, rfl, heap_lt hk33, fun j hj => ?_⟩
    match j, hj with
    | 0, _ => exact ⟨some ⟨w.heap.size + 1, 0, none⟩, 2, by rw [cell_of_row _ _ _ _ _ _ hk33]; rfl, by rw [cell_of_row _ _ _ _ _ _ hk33]; rfl, by rw [cell_of_row _ _ _ _ _ _ hk33]; rfl, by rw [cell_of_row _ _ _ _ _ _ hk33]; rfl, holds_ints _ _ 2 5 hk23, by show ([2, 5] : List Int).length ≤ _; decide⟩
  rw [hs2] at hU3
  rw [hW2] at hU3 hS3 hB3 hk13
  clear hk33 hk23 hb3 hb2 hk32 hs2 hk21 hk11 hB1 hW2
  have z := zero40_zero hk13
  obtain ⟨c0, c1, c2⟩ := c3_of hk13
  have f0 := f_of (o := 0) hk13
  have f1 := f_of (o := 1) hk13
  have f2 := f_of (o := 2) hk13
  have HF : ∀ (W : World), HoldsS W (some ⟨w1.heap.size, 0, none⟩) comeL → HoldsU W (some ⟨w1.heap.size + 1, 0, none⟩) comeU → Below w.heap.size w W → Zero W w.heap.size →
      Hid (HoldsS (((W.setCell ⟨w.heap.size, 0, none⟩ (.slice (some ⟨w1.heap.size, 0, none⟩) 1 1)).setCell ⟨w.heap.size, 1, none⟩ (.slice (some ⟨w1.heap.size + 1, 0, none⟩) 1 1)).setCell ⟨w.heap.size, 2, none⟩ (.bool false)) (some ⟨w1.heap.size, 0, none⟩) comeL ∧
        HoldsU (((W.setCell ⟨w.heap.size, 0, none⟩ (.slice (some ⟨w1.heap.size, 0, none⟩) 1 1)).setCell ⟨w.heap.size, 1, none⟩ (.slice (some ⟨w1.heap.size + 1, 0, none⟩) 1 1)).setCell ⟨w.heap.size, 2, none⟩ (.bool false)) (some ⟨w1.heap.size + 1, 0, none⟩) comeU ∧
        Below w.heap.size w (((W.setCell ⟨w.heap.size, 0, none⟩ (.slice (some ⟨w1.heap.size, 0, none⟩) 1 1)).setCell ⟨w.heap.size, 1, none⟩ (.slice (some ⟨w1.heap.size + 1, 0, none⟩) 1 1)).setCell ⟨w.heap.size, 2, none⟩ (.bool false))) := fun W h1 h2 h3 h4 => by
    have bt := (((But.refl w.heap.size W).set 0 (.slice (some ⟨w1.heap.size, 0, none⟩) 1 1)).set 1 (.slice (some ⟨w1.heap.size + 1, 0, none⟩) 1 1)).set 2 (.bool false)
    exact ⟨h1.but bt h4 (by decide +kernel), h2.but bt h4 (fun x hx => by
      simp only [comeU, List.mem_cons, List.not_mem_nil, or_false] at hx
      subst hx; decide), ((h3.setCell (Nat.le_refl _) _).setCell (Nat.le_refl _) _).setCell (Nat.le_refl _) _⟩
  have HG := HF _ hS3 hU3 hB3 z
  clear HF hS3 hU3 hB3 z hk13
  go_wp2
  refine bodyPost_ret (v := pushV (some ⟨w1.heap.size, 0, none⟩) 1 1 (some ⟨w1.heap.size + 1, 0, none⟩) 1 1 false) (by simp [results, Tryz.results47, go_sem, c0, c1, c2]) rfl ?_
  exact ⟨_, _, rfl, HG.out.1, HG.out.2.1, HG.out.2.2⟩

set_option maxHeartbeats 4000000 in
theorem pushBegun_any (w : World) (hg : Glob w) : Calls Tryz.prog 15 #[] w fun e w' => e = .returned (.bool true) ∧ Below w.heap.size w w' := by
  go_enter Tryz.func15, Tryz.ntmps15
  go_wp2_with fail
  refine (host_any w).mono ?_
  rintro e w1 ⟨g1, g2, rfl, hS1, hR1, hb1⟩
  go_wp2_with fail
  refine (come_any w1).mono ?_
  rintro e w2 ⟨g3, g4, rfl, hM2, hU2, hb2⟩
  have hB2 := hb1.trans (hb2.mono hb1.size)
  have htr := try_any (some ⟨g1, 0, none⟩) 5 shelfL (some ⟨g2, 0, none⟩) 2 namesL 7 0 none 0 0 none 0 0 false (some ⟨g3, 0, none⟩) 1 comeL (some ⟨g4, 0, none⟩) 1 comeU false w2 (hg.below hB2) (hS1.below hb2) (by decide) (hR1.below hb2) (by decide) hM2 (by decide) hU2 (by decide)
  clear hS1 hR1 hM2 hU2 hb1 hb2
  go_wp2_with fail
  refine htr.mono ?_
  clear htr
  rintro e w3 ⟨hb3, ⟨hno, -⟩ | ⟨-, a3, c3, a4, c4, rfl, -, -, hL3⟩⟩
  case inl => exact absurd beg_try hno
  rw [beg_res]
  have hB3 := hB2.trans (hb3.mono hB2.size)
  have hrl : (runL namesL comeU).length ≤ 9223372036854775807 := by decide +kernel
  obtain ⟨A, hAe⟩ : ∃ A, A = runL namesL comeU := ⟨_, rfl⟩
  have HId : Hid (lookI A nMain = 6) := by unfold Hid; rw [hAe]; exact beg_id
  rw [← hAe] at hL3 hrl
  rw [← hAe]
  clear hb3 hB2 hAe
  go_wp2_with fail
  have hdr := (Below.refl w3.heap.size w3).drew
  have hLD := hL3.below hdr
  have hBD := hB3.trans (hdr.mono hB3.size)
  clear hdr hL3 hB3
  refine wp_region_E (fun _ => True) (fun _ => false) (by kernel_rfl) trivial (fun hS => ?_)
  generalize w3.drew = W0 at *
  refine wpAnyE.one (i := 0) (by kernel_rfl) rfl (fun K hK => ?_)
  go_simp
  refine (shelf_holds W0).mono ?_
  rintro e W1 ⟨g5, rfl, hb1, h5⟩
  have hL1 := hLD.below hb1
  have hB1 := hBD.trans (hb1.mono hBD.size)
  clear hb1 hLD hBD
  refine hK _ _ (fun _ => trivial) ?_
  clear hK K
  try simp only [Act.put, List.getElem_toArray, List.getElem_cons_zero, List.setIfInBounds_toArray, List.set_cons_zero, List.set_cons_succ]
  refine wpAnyE.take (i := 1) (v := ?_) rfl (by kernel_rfl) (by kernel_rfl) (by kernel_rfl) (by kernel_rfl) (fun _ _ _ h => h) (Or.inl ⟨by rfl, ?_⟩) (by assumption) ?_
  rotate_left
  · intro w hSw; go_simp; with_reducible rfl
  try simp only [Act.put, List.getElem_toArray, List.getElem_cons_succ, List.getElem_cons_zero, List.setIfInBounds_toArray, List.set_cons_zero, List.set_cons_succ]
  refine wpAnyE.one (i := 2) (by kernel_rfl) rfl (fun K hK => ?_)
  go_simp
  refine (come_any W1).mono ?_
  rintro e W2 ⟨g6, g7, rfl, hM, hU, hb2⟩
  have hL2 := hL1.below hb2
  have h52 := holds_take (h5.below hb2) 3
  have hB2 := hB1.trans (hb2.mono hB1.size)
  clear hb2 hL1 hB1 h5
  refine hK _ _ (fun _ => trivial) ?_
  clear hK K
  try simp only [Act.put, List.getElem_toArray, List.getElem_cons_succ, List.getElem_cons_zero, List.setIfInBounds_toArray, List.set_cons_zero, List.set_cons_succ]
  refine wpAnyE.one (i := 3) (by kernel_rfl) rfl (fun K hK => ?_)
  go_simp
  refine (needs_any (some ⟨g5, 0, none⟩) 5 (shelfL.take 3) (some ⟨g6, 0, none⟩) 1 comeL (some ⟨g7, 0, none⟩) 1 comeU false W2 (hg.below hB2) h52 (by decide) hM (by decide) hU (by decide)).mono ?_
  rintro e W3 ⟨hb3, ⟨hno, -⟩ | ⟨-, a8, c8, rfl, hN3⟩⟩
  case inl => exact absurd beg_needsE hno
  rw [beg_needs] at hN3
  rw [show (needsL (shelfL.take 3) comeL comeU).length = 1 by rw [beg_needs]; rfl]
  have hL3 := hL2.below hb3
  have hB3 := hB2.trans (hb3.mono hB2.size)
  clear hb3 hL2 hB2 h52 hM hU
  refine hK _ _ (fun _ => trivial) ?_
  clear hK K
  try simp only [Act.put, List.getElem_toArray, List.getElem_cons_succ, List.getElem_cons_zero, List.setIfInBounds_toArray, List.set_cons_zero, List.set_cons_succ]
  refine wpAnyE.take (i := 4) (v := ?_) rfl (by kernel_rfl) (by kernel_rfl) (by kernel_rfl) (by kernel_rfl) (fun _ _ _ h => h) (Or.inl ⟨by rfl, ?_⟩) (by assumption) ?_
  rotate_left
  · intro w hSw; go_simp; with_reducible rfl
  try simp only [Act.put, List.getElem_toArray, List.getElem_cons_succ, List.getElem_cons_zero, List.setIfInBounds_toArray, List.set_cons_zero, List.set_cons_succ]
  refine wpAnyE.take (i := 5) (v := ?_) rfl (by kernel_rfl) (by kernel_rfl) (by kernel_rfl) (by kernel_rfl) (fun _ _ _ h => h) (Or.inl ⟨by rfl, ?_⟩) (by assumption) ?_
  rotate_left
  · intro w hSw; go_simp; with_reducible rfl
  try simp only [Act.put, List.getElem_toArray, List.getElem_cons_succ, List.getElem_cons_zero, List.setIfInBounds_toArray, List.set_cons_zero, List.set_cons_succ]
  refine wpAnyE.take (i := 6) (v := ?_) rfl (by kernel_rfl) (by kernel_rfl) (by kernel_rfl) (by kernel_rfl) (fun _ _ _ h => h) (Or.inl ⟨by rfl, ?_⟩) (by assumption) ?_
  rotate_left
  · intro w hSw; go_simp; with_reducible rfl
  try simp only [Act.put, List.getElem_toArray, List.getElem_cons_succ, List.getElem_cons_zero, List.setIfInBounds_toArray, List.set_cons_zero, List.set_cons_succ]
  refine wpAnyE.take (i := 7) (v := ?_) rfl (by kernel_rfl) (by kernel_rfl) (by kernel_rfl) (by kernel_rfl) (fun _ _ _ h => h) (Or.inl ⟨by rfl, ?_⟩) (by assumption) ?_
  rotate_left
  · intro w hSw; go_simp; with_reducible rfl
  try simp only [Act.put, List.getElem_toArray, List.getElem_cons_succ, List.getElem_cons_zero, List.setIfInBounds_toArray, List.set_cons_zero, List.set_cons_succ]
  refine wpAnyE.take (i := 8) (v := ?_) rfl (by kernel_rfl) (by kernel_rfl) (by kernel_rfl) (by kernel_rfl) (fun _ _ _ h => h) (Or.inl ⟨by rfl, ?_⟩) (by assumption) ?_
  rotate_left
  · intro w hSw; go_simp; with_reducible rfl
  try simp only [Act.put, List.getElem_toArray, List.getElem_cons_succ, List.getElem_cons_zero, List.setIfInBounds_toArray, List.set_cons_zero, List.set_cons_succ]
  refine wpAnyE.done (by kernel_rfl) ?_
  go_wp2_with fail
  refine (come_any W3).mono ?_
  rintro e w4 ⟨g8, g9, rfl, hM4, hU4, hb4⟩
  have hL4 := hL3.below hb4
  have hN4 := hN3.below hb4
  have hB4 := hB3.trans (hb4.mono hB3.size)
  have hpc := pcheck_any (some ⟨g8, 0, none⟩) 1 comeL (some ⟨g9, 0, none⟩) 1 comeU false w4 (hg.below hB4) hM4 (by decide) hU4 (by decide)
  rw [beg_push] at hpc
  clear hb4 hL3 hN3 hB3 hM4 hU4
  go_wp2_with fail
  refine hpc.mono ?_
  clear hpc
  rintro e w5 ⟨rfl, hb5⟩
  have hL5 := hL4.below hb5
  have hN5 := hN4.below hb5
  have hB5 := hB4.trans (hb5.mono hB4.size)
  have hid := idOf_any a4 c4 A nMain w5 hL5 hrl
  rw [HId.out] at hid
  clear hb5 hL4 hN4 hB4 hL5
  go_wp2_with fail
  refine hid.mono ?_
  clear hid
  rintro e w6 ⟨rfl, hb6⟩
  have hA6 := below_alloc w6 (.cells #[.int .i64 5] 3)
  have hN6 := (hN5.below hb6).below hA6
  have hB6 := (hB5.trans (hb6.mono hB5.size)).trans (hA6.mono (hB5.trans (hb6.mono hB5.size)).size)
  have hsi := sameInts_any a8 c8 [5] (some ⟨w6.heap.size, 0, none⟩) 1 [5] _ hN6 (holds_one w6 5) (by decide)
  rw [show sameB [5] [5] = true by rfl] at hsi
  clear hb6 hN5 hB5 hN6 hA6
  go_wp2_with fail
  refine hsi.mono ?_
  clear hsi
  rintro e w7 ⟨rfl, n, rfl⟩
  have hB7 : Below w.heap.size w ((w6.alloc (.cells #[.int .i64 5] 3)).drewN n) := hB6.trans ⟨rfl, rfl, rfl, Nat.le_refl _, fun _ _ => rfl⟩
  clear hB6
  go_wp2
  go_ret
  exact ⟨rfl, hB7⟩
end

section
open Go.RowKit

def movedB (us : List Up) : Bool := us.any (fun u => u.old != u.new)
theorem movedB_next {us : List Up} {k : Nat} (hk : k < us.length) : movedB (us.take (k + 1)) = (movedB (us.take k) || (us[k].old != us[k].new)) := by
  unfold movedB
  rw [List.take_succ_eq_append_getElem hk, List.any_append]
  simp
theorem movedB_iff {us : List Up} : movedB us = true → ∃ u ∈ us, u.old ≠ u.new := by
  intro h
  obtain ⟨u, hu, e⟩ := List.any_eq_true.1 h
  exact ⟨u, hu, by simpa using e⟩
end
end Go.Proofs.YtlkpmcegjplafaaGreatDoor
