import Derived.Test.YtehmlpkapjdhkaaGreatDoorMR
import Derived.Laws.StructEq
namespace Go.Proofs.YtehmlpkapjdhkaaGreatDoor
section
open Go.RowKit
theorem name_eq {x y : ByteArray} : (x.toList == y.toList) = true ↔ x = y := by
  rw [beq_iff_eq, ByteArray.toList_eq, ByteArray.toList_eq]
  constructor
  · intro h
    have := Array.toList_inj.1 h
    cases x; cases y; simpa using this
  · intro h; rw [h]
theorem ltN.neq {x y : ByteArray} (h : ltN x y) : x ≠ y := fun e => by
  have := h.ne
  rw [e] at this; simp at this
theorem ltN.irrefl (x : ByteArray) : ¬ ltN x x := fun h => h.neq rfl
theorem ltN.asymm {x y : ByteArray} (h : ltN x y) : ¬ ltN y x := fun h' => ltN.irrefl x (h.trans h')
/-- rising by name. -/
def SortR (l : List Rf) : Prop := l.Pairwise (fun x y => ltN x.name y.name)
/-- an update, as data. -/
structure Up where
  name : ByteArray
  old : Int
  new : Int
def okId (n : Int) : Bool := decide (0 ≤ n) && decide (n ≤ 99)
def sameU (nm : ByteArray) (u : Up) : Bool := u.name.toList == nm.toList
/-- what join answers. -/
def joinE (q : List Up) (u : Up) : Int :=
  if nameE u.name ≠ 0 then nameE u.name else if !(okId u.old) || !(okId u.new) then 3 else if u.old = 0 ∧ u.new = 0 then 1 else if q.any (sameU u.name) then 6 else 0
def eachU : List Up → List Up → Int
  | _, [] => 0
  | q, u :: us => if joinE q u ≠ 0 then joinE q u else eachU (q ++ [u]) us
/-- what Check of updates answers. -/
def checkU (us : List Up) : Int := if us.length = 0 then 5 else if 4 < us.length then 2 else eachU [] us
/-- an update that is right by itself. -/
structure RightU (u : Up) : Prop where
  name : nameE u.name = 0
  o0 : 0 ≤ u.old
  o1 : u.old ≤ 99
  n0 : 0 ≤ u.new
  n1 : u.new ≤ 99
  not : ¬ (u.old = 0 ∧ u.new = 0)
theorem okId_iff {n : Int} : okId n = true ↔ 0 ≤ n ∧ n ≤ 99 := by simp [okId]
theorem joinE_iff {q : List Up} {u : Up} : joinE q u = 0 ↔ RightU u ∧ ∀ x ∈ q, x.name ≠ u.name := by
  unfold joinE
  constructor
  · intro h
    split at h
    · rename_i c; exact absurd h c
    rename_i c1
    split at h
    · omega
    rename_i c2
    split at h
    · omega
    rename_i c3
    split at h
    · omega
    rename_i c4
    simp only [Bool.or_eq_true, Bool.not_eq_true', not_or, Bool.not_eq_false, okId_iff] at c2
    refine ⟨⟨Classical.byContradiction c1, c2.1.1, c2.1.2, c2.2.1, c2.2.2, c3⟩, fun x hx e => c4 ?_⟩
    exact List.any_eq_true.2 ⟨x, hx, name_eq.2 e⟩
  · rintro ⟨r, hq⟩
    rw [if_neg (fun e => e r.name), if_neg (by simp [okId, r.o0, r.o1, r.n0, r.n1]), if_neg r.not, if_neg]
    intro q
    obtain ⟨x, hx, q⟩ := List.any_eq_true.1 q
    exact hq x hx (name_eq.1 q)
theorem eachU_iff : ∀ (us q : List Up), eachU q us = 0 ↔ (∀ u ∈ us, RightU u ∧ ∀ x ∈ q, x.name ≠ u.name) ∧ us.Pairwise (fun x y => x.name ≠ y.name)
  | [], q => by simp [eachU]
  | u :: us, q => by
    rw [eachU, List.pairwise_cons]
    constructor
    · intro h
      split at h
      · rename_i c; exact absurd h c
      rename_i c
      obtain ⟨r, hq⟩ := joinE_iff.1 (Classical.byContradiction c)
      obtain ⟨h1, h2⟩ := (eachU_iff us _).1 h
      refine ⟨fun v hv => ?_, fun y hy => (h1 y hy).2 u (by simp), h2⟩
      rcases List.mem_cons.1 hv with rfl | hv
      · exact ⟨r, hq⟩
      · exact ⟨(h1 v hv).1, fun x hx => (h1 v hv).2 x (by simp [hx])⟩
    · rintro ⟨h1, h2, h3⟩
      rw [if_neg (fun e => e (joinE_iff.2 (h1 u (by simp))))]
      refine (eachU_iff us _).2 ⟨fun v hv => ⟨(h1 v (by simp [hv])).1, fun x hx => ?_⟩, h3⟩
      rcases List.mem_append.1 hx with hx | hx
      · exact (h1 v (by simp [hv])).2 x hx
      · rw [List.mem_singleton.1 hx]; exact h2 v hv
/-- no name twice. -/
abbrev Apart (us : List Up) : Prop := us.Pairwise (fun x y => x.name ≠ y.name)
theorem checkU_iff {us : List Up} : checkU us = 0 ↔ 0 < us.length ∧ us.length ≤ 4 ∧ (∀ u ∈ us, RightU u) ∧ Apart us := by
  unfold checkU
  constructor
  · intro h
    split at h
    · omega
    split at h
    · omega
    obtain ⟨h1, h2⟩ := (eachU_iff us []).1 h
    exact ⟨by omega, by omega, fun u hu => (h1 u hu).1, h2⟩
  · rintro ⟨h1, h2, h3, h4⟩
    rw [if_neg (by omega), if_neg (by omega)]
    exact (eachU_iff us []).2 ⟨fun u hu => ⟨h3 u hu, fun x hx => by cases hx⟩, h4⟩
theorem refs_sort {l : List Rf} {o : List Ob} (h : refsE l o = 0) : SortR l := ((eachR_iff _ _).1 (refsE_iff.1 h).2.2.1).2
end

section
open Go.RowKit
set_option maxRecDepth 100000

abbrev Up.val (u : Up) : Value := .agg #[.string u.name, .int .i64 u.old, .int .i64 u.new]
def UpAt (w : World) (b o : Nat) (u : Up) : Prop := w.cell? ⟨b, o, none⟩ = some (.string u.name) ∧ w.cell? ⟨b, o + 1, none⟩ = some (.int .i64 u.old) ∧ w.cell? ⟨b, o + 2, none⟩ = some (.int .i64 u.new)
/-- a slice of updates reads as a list. -/
def HoldsU (w : World) (a : Option Addr) (l : List Up) : Prop :=
  ∀ i, i < l.length → ∃ b off, a = some ⟨b, off, none⟩ ∧ b < w.heap.size ∧ ∀ i (h : i < l.length), UpAt w b (off + i * 3) l[i]
theorem HoldsU.below {w w' : World} {a : Option Addr} {l : List Up} (h : HoldsU w a l) (hb : Below w.heap.size w w') : HoldsU w' a l := by
  intro i hi
  obtain ⟨b, off, e, hlt, hc⟩ := h i hi
  exact ⟨b, off, e, Nat.lt_of_lt_of_le hlt hb.size, fun j hj => ⟨(hb.cell (p := ⟨b, off + j * 3, none⟩) hlt).trans (hc j hj).1, (hb.cell (p := ⟨b, off + j * 3 + 1, none⟩) hlt).trans (hc j hj).2.1, (hb.cell (p := ⟨b, off + j * 3 + 2, none⟩) hlt).trans (hc j hj).2.2⟩⟩

theorem Tryz.info40 : (Tryz.prog.info? 40).map (fun i => (i.zero, i.size, i.bytes)) = some (some (.agg #[.string { data := #[] }, .int .i64 0, .int .i64 0]), 3, 32) := by kernel_rfl

def Up.cells (r : Up) : List Value := [.string r.name, .int .i64 r.old, .int .i64 r.new]
def rowU : List Up → List Value
  | [] => []
  | r :: rs => r.cells ++ rowU rs
theorem rowU_append (A B : List Up) : rowU (A ++ B) = rowU A ++ rowU B := by
  induction A with
  | nil => rfl
  | cons r A ih => simp [rowU, ih]
theorem rowU_length (A : List Up) : (rowU A).length = A.length * 3 := by
  induction A with
  | nil => rfl
  | cons r A ih => simp [rowU, ih, Up.cells]; omega
theorem rowU_one (A : List Up) : ∀ v ∈ rowU A, v.oneCell' = true := by
  induction A with
  | nil => intro v h; cases h
  | cons r A ih =>
    intro v h
    rcases List.mem_append.1 h with h | h
    · simp only [Up.cells, List.mem_cons, List.not_mem_nil, or_false] at h
      rcases h with rfl | rfl | rfl <;> rfl
    · exact ih v h
theorem rowU_get (A : List Up) (i j : Nat) (hi : i < A.length) (hj : j < 3) : (rowU A)[i * 3 + j]? = (A[i].cells)[j]? := by
  induction A generalizing i with
  | nil => simp at hi
  | cons r A ih =>
    cases i with
    | zero =>
      simp only [rowU, Nat.zero_mul, Nat.zero_add, List.getElem_cons_zero]
      exact List.getElem?_append_left (by simpa [Up.cells] using hj)
    | succ i =>
      have := ih i (by simpa using hi)
      rw [List.getElem_cons_succ, ← this]
      simp only [rowU]
      rw [List.getElem?_append_right (by simp [Up.cells]; omega)]
      congr 1
      simp [Up.cells]; omega
theorem ownU_reads {w : World} {base : Nat} {v : Value} {xs : List Up} (h : w.ownsRow base 40 3 v xs.length (rowU xs)) : ∃ a c, v = .slice a xs.length c ∧ HoldsU w a xs ∧ xs.length ≤ c := by
  rcases h.2 with ⟨rfl, e⟩ | ⟨g, cap, cur, rfl, h1, h2, h3, h4, h5, h6⟩
  · rw [e]
    exact ⟨none, 0, rfl, fun i hi => by omega, Nat.le_refl _⟩
  · refine ⟨_, _, rfl, fun i hi => ⟨g, 0, rfl, heap_lt h2, fun k hk => ?_⟩, h3⟩
    have hc : ∀ j, j < 3 → w.cell? ⟨g, 0 + k * 3 + j, none⟩ = (xs[k].cells)[j]? := fun j hj => by
      rw [Nat.zero_add, cell_of_row w g _ _ _ _ h2, ← rowU_get xs k j hk hj, ← h6, List.getElem?_take, if_pos (by omega)]
      simp
    exact ⟨by simpa [Up.cells] using hc 0 (by omega), by simpa [Up.cells] using hc 1 (by omega), by simpa [Up.cells] using hc 2 (by omega)⟩
theorem ownsRow_kept {w w' : World} {base : Nat} {e : TypeId} {size : Nat} {v : Value} {n : Nat} {xs : List Value} (h : w.ownsRow base e size v n xs) (hs : ∀ g, v.ownBlock = some g → w'.heap[g]? = w.heap[g]?) : w'.ownsRow base e size v n xs := by
  refine ⟨h.1, ?_⟩
  rcases h.2 with h | ⟨g, cap, cur, rfl, h1, h2, h3⟩
  · exact .inl h
  · exact .inr ⟨g, cap, cur, rfl, h1, (hs g rfl).trans h2, h3⟩

/-- the first that P says yes to, or -1. -/
def indexU (P : Up → Bool) (l : List Up) : Int := match l.findIdx? P with | some i => (i : Int) | none => -1
theorem indexU_hit {P : Up → Bool} {l : List Up} {k : Nat} (hk : k < l.length) (hno : ∀ j (h : j < l.length), j < k → P l[j] = false) (h : P l[k] = true) : indexU P l = k := by
  have : l.findIdx? P = some k := by
    rw [List.findIdx?_eq_some_iff_getElem]
    exact ⟨hk, h, fun j hj => by simpa using hno j (by omega) hj⟩
  simp [indexU, this]
theorem indexU_miss {P : Up → Bool} {l : List Up} (hno : ∀ j (h : j < l.length), P l[j] = false) : indexU P l = -1 := by
  have : l.findIdx? P = none := by
    rw [List.findIdx?_eq_none_iff]
    intro x hx
    obtain ⟨j, hj, rfl⟩ := List.getElem_of_mem hx
    exact hno j hj
  simp [indexU, this]
theorem indexU_any {P : Up → Bool} {l : List Up} : decide (0 ≤ indexU P l) = l.any P := by
  unfold indexU
  cases h : l.findIdx? P with
  | none =>
    rw [List.findIdx?_eq_none_iff] at h
    rw [show l.any P = false from List.any_eq_false.2 (fun x hx => by simp [h x hx])]
    simp
  | some i =>
    rw [List.findIdx?_eq_some_iff_getElem] at h
    obtain ⟨h1, h2, h3⟩ := h
    rw [show l.any P = true from List.any_eq_true.2 ⟨_, List.getElem_mem h1, h2⟩]
    simp

set_option maxHeartbeats 400000 in
theorem umay_any (n : Int) (w : World) : Calls Tryz.prog 179 #[.int .i64 n] w fun e w' => e = .returned (.bool (okId n)) ∧ w' = w := by
  have HR : Hid (∀ b : Bool, (b = true ↔ (0 ≤ n ∧ n ≤ 99)) → b = okId n) := fun b hb => by
    rw [Bool.eq_iff_iff, hb, okId_iff]
  go_enter Tryz.func179, Tryz.ntmps179
  go_wp2
  all_goals go_ret
  all_goals refine ⟨ret_bool (HR.out _ ?_), rfl⟩
  all_goals simp
  all_goals omega

set_option maxHeartbeats 400000 in
theorem join1_any (x : Up) (nm : ByteArray) (p : Nat) (w : World) (hp : w.cell? ⟨p, 0, none⟩ = some (.string nm)) (hlt : p < w.heap.size) :
    Calls Tryz.prog 181 #[x.val, .pointer (some ⟨p, 0, none⟩)] w fun e w' => e = .returned (.bool (sameU nm x)) ∧ Below w.heap.size w w' := by
  go_enter Tryz.func181, Tryz.ntmps181
  go_wp2
  go_ret
  exact ⟨rfl, below_alloc _ _⟩

set_option maxHeartbeats 800000 in
theorem indexJoin_any (a : Option Addr) (c : Nat) (l : List Up) (nm : ByteArray) (p : Nat) (w : World) (h : HoldsU w a l) (hl : l.length ≤ 9223372036854775807) (hp : w.cell? ⟨p, 0, none⟩ = some (.string nm)) (hlt : p < w.heap.size) :
    Calls Tryz.prog 234 #[.slice a l.length c, .func (.func 181) #[] #[.pointer (some ⟨p, 0, none⟩)]] w fun e w' => e = .returned (.int .i64 (indexU (sameU nm) l)) ∧ Below w.heap.size w w' := by
  go_enter Tryz.func234, Tryz.ntmps234
  go_wp2
  go_loopw [8] (fun i wr => ∃ k : Nat, i = .int .i64 k ∧ k ≤ l.length ∧ Below w.heap.size w wr ∧ Hid (∀ j (hj : j < l.length), j < k → (sameU nm) l[j] = false)) (fun i _ => l.length - (intOf i).toNat)
  case atStart => exact ⟨0, rfl, Nat.zero_le _, Below.refl _ _, fun j _ h => absurd h (Nat.not_lt_zero j)⟩
  case round =>
    obtain ⟨k, rfl, hk, hB, H⟩ := hrel
    by_cases hkl : k < l.length
    · obtain ⟨b, off, rfl, hb, hc⟩ := (h.below hB) k hkl
      obtain ⟨x0, x1, x2⟩ := hc k hkl
      have hpr : wr.cell? ⟨p, 0, none⟩ = some (.string nm) := (hB.cell (p := ⟨p, 0, none⟩) hlt).trans hp
      have hcl := join1_any l[k] nm p wr hpr (Nat.lt_of_lt_of_le hlt hB.size)
      clear hpr
      clear hc
      go_wp2_with fail
      refine hcl.mono ?_
      clear hcl
      rintro e w1 ⟨rfl, hb1⟩
      have hB1 := hB.trans (hb1.mono hB.size)
      clear hb1 x0 x1 x2
      by_cases hq : (sameU nm) l[k] = true
      · have HR : Hid (indexU (sameU nm) l = k) := indexU_hit hkl H.out hq
        rw [hq]
        clear hq
        go_wp2
        go_ret
        exact ⟨ret_int HR.out.symm, hB1⟩
      · have hq' : (sameU nm) l[k] = false := by simpa using hq
        have HN : Hid (∀ j (hj : j < l.length), j < k + 1 → (sameU nm) l[j] = false) := fun j hj hjk => by
          rcases Nat.lt_or_ge j k with h1 | h1
          · exact H.out j hj h1
          · have : j = k := by omega
            subst this
            exact hq'
        rw [hq']
        clear hq hq'
        go_wp2
        go_roundw
        case rel => exact ⟨k + 1, by go_num, by omega, hB1, HN⟩
        case measure => simp [intOf]; omega
    · have HR : Hid (indexU (sameU nm) l = -1) := indexU_miss (fun j hj => H.out j hj (by omega))
      go_wp2
      go_ret
      exact ⟨ret_int HR.out.symm, hB⟩

set_option maxHeartbeats 400000 in
theorem containsJoin_any (a : Option Addr) (c : Nat) (l : List Up) (nm : ByteArray) (p : Nat) (w : World) (h : HoldsU w a l) (hl : l.length ≤ 9223372036854775807) (hp : w.cell? ⟨p, 0, none⟩ = some (.string nm)) (hlt : p < w.heap.size) :
    Calls Tryz.prog 180 #[.slice a l.length c, .func (.func 181) #[] #[.pointer (some ⟨p, 0, none⟩)]] w fun e w' => e = .returned (.bool (l.any (sameU nm))) ∧ Below w.heap.size w w' := by
  have HR : Hid (decide (0 ≤ indexU (sameU nm) l) = l.any (sameU nm)) := indexU_any
  go_enter Tryz.func180, Tryz.ntmps180
  go_wp2_with fail
  refine (indexJoin_any a c l nm p w h hl hp hlt).mono ?_
  rintro e w1 ⟨rfl, hb⟩
  go_wp2
  go_ret
  exact ⟨ret_bool HR.out, hb⟩
end

section
open Go.RowKit
set_option maxRecDepth 100000

theorem c1_of {w : World} {q : Nat} {v : Value} {t : TypeId} (h : w.heap[q]? = some (.cells #[v] t)) : w.cell? ⟨q, 0, none⟩ = some v := by rw [cell_of_row w _ _ _ _ _ h]; rfl
theorem f_of {w : World} {q o : Nat} {cs : Array Value} {t : TypeId} (h : w.heap[q]? = some (.cells cs t)) : w.frozen? ⟨q, o, none⟩ = false := by simp [World.frozen?, h]
theorem c3_of {w : World} {q : Nat} {x0 x1 x2 : Value} {t : TypeId} (h : w.heap[q]? = some (.cells #[x0, x1, x2] t)) : w.cell? ⟨q, 0, none⟩ = some x0 ∧ w.cell? ⟨q, 1, none⟩ = some x1 ∧ w.cell? ⟨q, 2, none⟩ = some x2 := by
  refine ⟨?_, ?_, ?_⟩ <;> rw [cell_of_row w _ _ _ _ _ h] <;> rfl

/-- append of one update onto a row of one's own; the new row is the old one's block or a new block. -/
theorem app_up (w : World) (base : Nat) (ty : TypeId) (v : Value) (n : Nat) (xs : List Value) (hown : w.ownsRow base 40 3 v n xs) (vb : Nat) (ys : Array Value) (hv : w.heap[vb]? = some (.cells ys 40)) (hys : ys.size = 3)
    (h2 : ∀ v ∈ ys.toList, v.oneCell' = true) (hn : n ≤ 1000) (hbase : base ≤ w.heap.size) :
    ∃ v' w', (Builtin.append_ #[26, 26] ty #[v, .slice (some ⟨vb, 0, none⟩) 1 1]).run Tryz.prog w = .ok v' w' ∧ w'.ownsRow base 40 3 v' (n + 1) (xs ++ ys.toList) ∧ w.grownBy w' v.ownBlock := by
  obtain ⟨i0, hi0, hz0, hzs, hzb⟩ := info_parts Tryz.info40
  have hl : ys.toList.length = 1 * 3 := by rw [Array.length_toList, hys]
  have hnews := World.news_of_block hv
  obtain ⟨v', w', hr, q1, q2, _⟩ := run_append_own (P := Tryz.prog) w base 26 ty 40 i0 _ 3 32 Tryz.underlying26 hi0 hz0 hzs hzb rfl (by omega) v n xs hown ⟨vb, 0, none⟩ 1 1 ys.toList hl hnews h2 (by unfold maxLen; omega) (by omega) hbase
  exact ⟨v', w', hr, q1, q2⟩
theorem step_append_g {t : TypeId} {ops : Array Oper} {o : Oper} {a : Act} {w : World} {K : Act → World → Prop} {Q : Exit → Act → World → Prop} {E : Prop} (hgd : o.guard = none) (d s : Operand)
    (ho : o.op = .call { callee := .builtin .append, args := #[d, s], argTypes := #[t, t] }) (v u : Value) (hd : a.eval d = v) (hs : a.eval s = u) {v' : Value} {w' : World}
    (hr : (Builtin.append_ #[t, t] o.type #[v, u]).run Tryz.prog w = .ok v' w') (h : K (a.put o.dst v') w') : if Region.wanted o (yielded ops a.tmps) = true then Oper.wp Tryz.prog o a w K Q else E := by
  have hw : Region.wanted o (yielded ops a.tmps) = true := by simp [Region.wanted, hgd]
  rw [if_pos hw]
  unfold Oper.wp execOp
  simp only [ho, resolve, invoke, builtin, Sem.run_bind, Sem.run_pure, Result.andThen_ok, List.map_toArray, List.map_cons, List.map_nil, hd, hs, hr]
  exact h
theorem own_slice_g {w : World} {base : Nat} {e : TypeId} {size : Nat} {v : Value} {n : Nat} {xs : List Value} (h : w.ownsRow base e size v n xs) : ∃ g m c, v = .slice g m c := by
  rcases h.2 with ⟨e, _⟩ | ⟨g, cap, _, e, _⟩
  · exact ⟨_, _, _, e⟩
  · exact ⟨_, _, _, e⟩

/-- a queue at q: its row lies above q. -/
structure Queue (w : World) (q : Nat) (v : Value) (l : List Up) : Prop where
  blk : w.heap[q]? = some (.cells #[v] 165)
  own : w.ownsRow (q + 1) 40 3 v l.length (rowU l)
theorem Queue.lt {w : World} {q : Nat} {v : Value} {l : List Up} (h : Queue w q v l) : q < w.heap.size := heap_lt h.blk
theorem Queue.below {w w' : World} {q : Nat} {v : Value} {l : List Up} (h : Queue w q v l) (hb : Below w.heap.size w w') : Queue w' q v l :=
  ⟨(hb.block q h.lt).trans h.blk, ownsRow_kept h.own (fun g hg => hb.block g (h.own.lt g hg).2)⟩
theorem Queue.next {w w1 w2 : World} {q : Nat} {v v' : Value} {l l' : List Up} (h : Queue w q v l) (hb : Below w.heap.size w w1) (hg : w1.grownBy w2 v.ownBlock) (ho : w2.ownsRow (q + 1) 40 3 v' l'.length (rowU l')) :
    Queue (w2.setCell ⟨q, 0, none⟩ v') q v' l' ∧ Below q w (w2.setCell ⟨q, 0, none⟩ v') := by
  have h1 := h.below hb
  have hpl := h.lt
  have hpg : ∀ k, v.ownBlock = some k → q < k ∧ k < w.heap.size := fun k e => by have := h.own.lt k e; omega
  have hbp : w2.heap[q]? = some (.cells #[v] 165) := (hg.block q h1.lt (fun e => by have := hpg q e.symm; omega)).trans h1.blk
  have hoth : ∀ k, k ≠ q → (w2.setCell ⟨q, 0, none⟩ v').heap[k]? = w2.heap[k]? := fun k hk => heap_setCell_other w2 ⟨q, 0, none⟩ k v' hk
  have hsz : (w2.setCell ⟨q, 0, none⟩ v').heap.size = w2.heap.size := World.size_setCell _ _ _
  have hs1 := hb.size
  have hs2 := hg.size
  refine ⟨⟨?_, ?_⟩, ?_⟩
  · have := heap_setCell_same w2 q 0 #[v] 165 v' hbp
    simpa using this
  · exact ownsRow_kept ho (fun g e => hoth g (by have := (ho.lt g e).1; omega))
  · refine ⟨hg.os.trans hb.os, hg.tape.trans hb.tape, hg.output.trans hb.output, by omega, fun k hk => ?_⟩
    rw [hoth k (by omega), hg.block k (by omega) (fun e => by have := hpg k e.symm; omega)]
    exact hb.block k (by omega)

def joinL (l : List Up) (u : Up) : List Up := if joinE l u = 0 then l ++ [u] else l
theorem joinL_bad {l : List Up} {u : Up} {r : Int} (h : joinE l u = r) (hr : r ≠ 0) : joinL l u = l := by unfold joinL; rw [if_neg (fun e => hr (h.symm.trans e))]
theorem joinL_ok {l : List Up} {u : Up} (h : joinE l u = 0) : joinL l u = l ++ [u] := if_pos h

set_option maxHeartbeats 4000000 in
theorem join_any (q : Nat) (v : Value) (l : List Up) (u : Up) (w : World) (hg : Glob w) (Q : Queue w q v l) (hl : l.length ≤ 900) :
    Calls Tryz.prog 117 #[.pointer (some ⟨q, 0, none⟩), u.val] w fun e w' => ∃ v', e = .returned (.int .i64 (joinE l u)) ∧ Queue w' q v' (joinL l u) ∧ Below q w w' := by
  have hmf : ∀ (fn : Fn) (first cap : Array Value) (w : World), (Instr.makeFunc fn first cap).run Tryz.prog w = .ok (.func fn first cap) w := fun _ _ _ _ => rfl
  have hA := below_alloc w (.cells #[.string u.name, .int .i64 u.old, .int .i64 u.new] 40)
  have hbk := heap_alloc_new w (.cells #[.string u.name, .int .i64 u.old, .int .i64 u.new] 40)
  have HJ : Hid (joinE l u = if nameE u.name ≠ 0 then nameE u.name else if !(okId u.old) || !(okId u.new) then 3 else if u.old = 0 ∧ u.new = 0 then 1 else if l.any (sameU u.name) then 6 else 0) := rfl
  have hql := Q.lt
  go_enter Tryz.func117, Tryz.ntmps117
  go_wp2_with fail
  refine (name_any u.name _ (hg.below hA)).mono ?_
  rintro e w1 ⟨rfl, hb1⟩
  have hB1 := hA.trans (hb1.mono hA.size)
  have hbk1 := (hb1.block _ (heap_lt hbk)).trans hbk
  have Q1 := Q.below hB1
  have hBl : w.heap.size < w1.heap.size := heap_lt hbk1
  have hBn : v.ownBlock ≠ some w.heap.size := fun e => by have := (Q.own.lt _ e).2; omega
  obtain ⟨B, hBe⟩ : ∃ B, B = w.heap.size := ⟨_, rfl⟩
  have hqB : q < B := by omega
  rw [← hBe] at hbk1 hBl hBn
  rw [← hBe]
  have hBq := hB1.mono (Nat.le_of_lt hql)
  clear hA hbk hb1 hB1 hBe hg hql
  obtain ⟨y0, y1, y2⟩ := c3_of hbk1
  by_cases k1 : nameE u.name = 0
  case neg =>
    have HR : Hid (joinE l u = nameE u.name) := by unfold Hid; rw [HJ.out, if_pos k1]
    have HQ : Hid (joinL l u = l) := joinL_bad HR.out k1
    have z1 : (nameE u.name != 0) = true := by simpa using k1
    clear k1
    go_wp2
    go_ret
    exact ⟨v, ret_int HR.out.symm, by rw [HQ.out]; exact Q1, hBq⟩
  have HJ1 : Hid (joinE l u = if !(okId u.old) || !(okId u.new) then 3 else if u.old = 0 ∧ u.new = 0 then 1 else if l.any (sameU u.name) then 6 else 0) := by unfold Hid; rw [HJ.out, if_neg (fun e => e k1)]
  rw [k1]
  clear k1 HJ
  by_cases k2 : (!(okId u.old) || !(okId u.new)) = true
  · have HR : Hid (joinE l u = 3) := by unfold Hid; rw [HJ1.out, if_pos k2]
    have HQ : Hid (joinL l u = l) := joinL_bad HR.out (by decide)
    cases k3 : okId u.old with
    | false =>
      have hm := umay_any u.old w1
      rw [k3] at hm
      clear k2 k3
      go_wp2_with (go_at_call 179; refine hm.mono ?_; rintro e w2 ⟨rfl, rfl⟩)
      go_ret
      exact ⟨v, ret_int HR.out.symm, by rw [HQ.out]; exact Q1, hBq⟩
    | true =>
      have k4 : okId u.new = false := by rw [k3] at k2; simpa using k2
      have hm := umay_any u.old w1
      have hn := umay_any u.new w1
      rw [k3] at hm
      rw [k4] at hn
      clear k2 k3 k4
      go_wp2_with fail
      refine hm.mono ?_
      rintro e w2 ⟨rfl, rfl⟩
      go_wp2_with fail
      refine hn.mono ?_
      rintro e w2 ⟨rfl, rfl⟩
      go_wp2
      go_ret
      exact ⟨v, ret_int HR.out.symm, by rw [HQ.out]; exact Q1, hBq⟩
  have HJ2 : Hid (joinE l u = if u.old = 0 ∧ u.new = 0 then 1 else if l.any (sameU u.name) then 6 else 0) := by unfold Hid; rw [HJ1.out, if_neg k2]
  have hm := umay_any u.old w1
  have hn := umay_any u.new w1
  have k5 : okId u.old = true ∧ okId u.new = true := by
    cases h1 : okId u.old <;> cases h2 : okId u.new <;> simp [h1, h2] at k2 ⊢
  rw [k5.1] at hm
  rw [k5.2] at hn
  clear k2 k5 HJ1
  go_wp2_with fail
  refine hm.mono ?_
  clear hm
  rintro e w2 ⟨rfl, rfl⟩
  go_wp2_with fail
  refine hn.mono ?_
  clear hn
  rintro e w2 ⟨rfl, rfl⟩
  by_cases k6 : u.old = 0 ∧ u.new = 0
  · have HR : Hid (joinE l u = 1) := by unfold Hid; rw [HJ2.out, if_pos k6]
    have HQ : Hid (joinL l u = l) := joinL_bad HR.out (by decide)
    have z1 : (u.old == 0) = true := by simpa using k6.1
    have z2 : (u.new == 0) = true := by simpa using k6.2
    clear k6 HJ2
    go_wp2
    go_ret
    exact ⟨v, ret_int HR.out.symm, by rw [HQ.out]; exact Q1, hBq⟩
  have HJ3 : Hid (joinE l u = if l.any (sameU u.name) then 6 else 0) := by unfold Hid; rw [HJ2.out, if_neg k6]
  clear HJ2
  have hBown : v.ownBlock ≠ some B := fun e => hBn e
  clear hBn
  obtain ⟨a, c, hv, hh, hlc⟩ := ownU_reads Q1.own
  subst hv
  have c0 := c1_of Q1.blk
  have hcj := containsJoin_any a c l u.name B w2 hh (by omega) y0 hBl
  -- the two zeros are not both
  have go : ∀ (P : Prop), (∀ b1 b2 : Bool, (u.old == 0) = b1 → (u.new == 0) = b2 → (b1 && b2) = false → P) → P := fun P h => h _ _ rfl rfl (by
    cases h1 : (u.old == 0) with
    | false => rfl
    | true =>
      cases h2 : (u.new == 0) with
      | false => rfl
      | true => exact absurd ⟨by simpa using h1, by simpa using h2⟩ k6)
  apply go
  intro b1 b2 z1 z2 z3
  clear go k6
  have fin : ∀ (w3 : World), Below w2.heap.size w2 w3 → True := fun _ _ => trivial
  clear fin
  cases b1 with
  | false =>
    clear z3
    go_wp2_with fail
    refine hcj.mono ?_
    clear hcj
    rintro e w3 ⟨rfl, hb3⟩
    have Q3 := Q1.below hb3
    have hbk3 := (hb3.block _ hBl).trans hbk1
    have hBq3 := hBq.trans (hb3.mono (Nat.le_of_lt Q1.lt))
    have hBl3 := heap_lt hbk3
    clear hb3 hbk1 hBq hBl Q1 y0 y1 y2 hh c0 z1 z2
    cases hq : l.any (sameU u.name) with
    | true =>
      have HR : Hid (joinE l u = 6) := by unfold Hid; rw [HJ3.out, if_pos hq]
      have HQ : Hid (joinL l u = l) := joinL_bad HR.out (by decide)
      clear hq HJ3
      go_wp2
      go_ret
      exact ⟨_, ret_int HR.out.symm, by rw [HQ.out]; exact Q3, hBq3⟩
    | false =>
      have HR : Hid (joinE l u = 0) := by unfold Hid; rw [HJ3.out, if_neg (by rw [hq]; decide)]
      have HQ : Hid (joinL l u = l ++ [u]) := joinL_ok HR.out
      clear hq HJ3
      go_wp2_with fail
      have hdr := (Below.refl w3.heap.size w3).drew
      have QD := Q3.below hdr
      have hbD := (hdr.block _ hBl3).trans hbk3
      have hBqD := hBq3.trans (hdr.mono (Nat.le_of_lt Q3.lt))
      clear Q3 hbk3 hBq3 hdr hBl3
      refine wp_region_E (fun W => W.heap[q]? = some (.cells #[.slice a l.length c] 165) ∧ W.heap[B]? = some (.cells #[.string u.name, .int .i64 u.old, .int .i64 u.new] 40)) (fun k => k == 10) (by kernel_rfl) ⟨QD.blk, hbD⟩ (fun hS => ?_)
      generalize w3.drew = W0 at *
      refine wpAnyE.take (i := 0) (v := ?_) rfl (by kernel_rfl) (by kernel_rfl) (by kernel_rfl) (by kernel_rfl) (fun _ _ _ h => h) (Or.inl ⟨by rfl, ?_⟩) (by assumption) ?_
      rotate_left
      · intro w hSw; have z := c1_of hSw.1; obtain ⟨z0, z1, z2⟩ := c3_of hSw.2; clear hSw; go_simp; with_reducible rfl
      try simp only [Act.put, List.getElem_toArray, List.getElem_cons_zero, List.setIfInBounds_toArray, List.set_cons_zero, List.set_cons_succ]
      refine wpAnyE.take (i := 1) (v := ?_) rfl (by kernel_rfl) (by kernel_rfl) (by kernel_rfl) (by kernel_rfl) (fun _ _ _ h => h) (Or.inl ⟨by rfl, ?_⟩) (by assumption) ?_
      rotate_left
      · intro w hSw; have z := c1_of hSw.1; obtain ⟨z0, z1, z2⟩ := c3_of hSw.2; clear hSw; go_simp; with_reducible rfl
      try simp only [Act.put, List.getElem_toArray, List.getElem_cons_succ, List.getElem_cons_zero, List.setIfInBounds_toArray, List.set_cons_zero, List.set_cons_succ]
      refine wpAnyE.take (i := 2) (v := ?_) rfl (by kernel_rfl) (by kernel_rfl) (by kernel_rfl) (by kernel_rfl) (fun _ _ _ h => h) (Or.inl ⟨by rfl, ?_⟩) (by assumption) ?_
      rotate_left
      · intro w hSw; have z := c1_of hSw.1; obtain ⟨z0, z1, z2⟩ := c3_of hSw.2; clear hSw; go_simp; with_reducible rfl
      try simp only [Act.put, List.getElem_toArray, List.getElem_cons_succ, List.getElem_cons_zero, List.setIfInBounds_toArray, List.set_cons_zero, List.set_cons_succ]
      refine wpAnyE.take (i := 3) (v := ?_) rfl (by kernel_rfl) (by kernel_rfl) (by kernel_rfl) (by kernel_rfl) (fun _ _ _ h => h) (Or.inl ⟨by rfl, ?_⟩) (by assumption) ?_
      rotate_left
      · intro w hSw; have z := c1_of hSw.1; obtain ⟨z0, z1, z2⟩ := c3_of hSw.2; clear hSw; go_simp; with_reducible rfl
      try simp only [Act.put, List.getElem_toArray, List.getElem_cons_succ, List.getElem_cons_zero, List.setIfInBounds_toArray, List.set_cons_zero, List.set_cons_succ]
      refine wpAnyE.take (i := 4) (v := ?_) rfl (by kernel_rfl) (by kernel_rfl) (by kernel_rfl) (by kernel_rfl) (fun _ _ _ h => h) (Or.inl ⟨by rfl, ?_⟩) (by assumption) ?_
      rotate_left
      · intro w hSw; have z := c1_of hSw.1; obtain ⟨z0, z1, z2⟩ := c3_of hSw.2; clear hSw; go_simp; with_reducible rfl
      try simp only [Act.put, List.getElem_toArray, List.getElem_cons_succ, List.getElem_cons_zero, List.setIfInBounds_toArray, List.set_cons_zero, List.set_cons_succ]
      refine wpAnyE.take (i := 5) (v := ?_) rfl (by kernel_rfl) (by kernel_rfl) (by kernel_rfl) (by kernel_rfl) (fun _ _ _ h => h) (Or.inl ⟨by rfl, ?_⟩) (by assumption) ?_
      rotate_left
      · intro w hSw; have z := c1_of hSw.1; obtain ⟨z0, z1, z2⟩ := c3_of hSw.2; clear hSw; go_simp; with_reducible rfl
      try simp only [Act.put, List.getElem_toArray, List.getElem_cons_succ, List.getElem_cons_zero, List.setIfInBounds_toArray, List.set_cons_zero, List.set_cons_succ]
      refine wpAnyE.one (i := 6) (by kernel_rfl) rfl (fun K hK => ?_)
      go_simp
      obtain ⟨W2, hW2⟩ : ∃ W2, W2 = W0.alloc (.cells #[.string u.name, .int .i64 u.old, .int .i64 u.new] 40) := ⟨_, rfl⟩
      have hb2 : Below W0.heap.size W0 W2 := by rw [hW2]; exact below_alloc _ _
      have hv2 : W2.heap[W0.heap.size]? = some (.cells #[.string u.name, .int .i64 u.old, .int .i64 u.new] 40) := by rw [hW2]; exact heap_alloc_new W0 _
      rw [← hW2]
      clear hW2
      have hS2 : W2.heap[q]? = some (.cells #[.slice a l.length c] 165) ∧ W2.heap[B]? = some (.cells #[.string u.name, .int .i64 u.old, .int .i64 u.new] 40) := ⟨(hb2.block _ (heap_lt hS.1)).trans hS.1, (hb2.block _ (heap_lt hS.2)).trans hS.2⟩
      refine hK _ _ (fun _ => hS2) ?_
      clear hK K hS
      try simp only [Act.put, List.getElem_toArray, List.getElem_cons_succ, List.getElem_cons_zero, List.setIfInBounds_toArray, List.set_cons_zero, List.set_cons_succ]
      refine wpAnyE.one (i := 7) (by kernel_rfl) rfl (fun K hK => ?_)
      have Q2 := QD.below hb2
      obtain ⟨v', W3, hr3, ho3, hg3⟩ := app_up W2 (q + 1) 26 _ l.length (rowU l) Q2.own W0.heap.size _ hv2 rfl (by intro u hu; simp only [List.mem_cons, List.not_mem_nil, or_false] at hu; rcases hu with rfl | rfl | rfl <;> rfl) (by omega) (by have := Q2.lt; omega)
      obtain ⟨g', m', c', rfl⟩ := own_slice_g ho3
      refine step_append_g (by rfl) (.tmp 43) (.tmp 45) (by rfl) _ _ (by rfl) (by rfl) hr3 ?_
      have hne3 : some q ≠ (Value.slice a l.length c).ownBlock := fun e => by have := (Q2.own.lt _ e.symm).1; omega
      have hneB : some B ≠ (Value.slice a l.length c).ownBlock := fun e => hBown e.symm
      have hp3 := (hg3.block _ Q2.lt hne3).trans Q2.blk
      have hS3 : W3.heap[q]? = some (.cells #[.slice a l.length c] 165) ∧ W3.heap[B]? = some (.cells #[.string u.name, .int .i64 u.old, .int .i64 u.new] 40) := ⟨hp3, (hg3.block _ (heap_lt hS2.2) hneB).trans hS2.2⟩
      refine hK _ _ (fun _ => hS3) ?_
      clear hK K hS2 hr3
      try simp only [Act.put, List.getElem_toArray, List.getElem_cons_succ, List.getElem_cons_zero, List.setIfInBounds_toArray, List.set_cons_zero, List.set_cons_succ]
      refine wpAnyE.one (i := 8) (by kernel_rfl) rfl (fun K hK => ?_)
      go_simp
      refine hK _ _ (fun _ => hS3) ?_
      clear hK K
      try simp only [Act.put, List.getElem_toArray, List.getElem_cons_succ, List.getElem_cons_zero, List.setIfInBounds_toArray, List.set_cons_zero, List.set_cons_succ]
      refine wpAnyE.one (i := 9) (by kernel_rfl) rfl (fun K hK => ?_)
      go_simp
      refine hK _ _ (fun _ => hS3) ?_
      clear hK K
      try simp only [Act.put, List.getElem_toArray, List.getElem_cons_succ, List.getElem_cons_zero, List.setIfInBounds_toArray, List.set_cons_zero, List.set_cons_succ]
      have zf := f_of (o := 0) hS3.1
      have zc := c1_of hS3.1
      clear hS3
      refine wpAnyE.one (i := 10) (by kernel_rfl) rfl (fun K hK => ?_)
      go_simp
      refine hK _ _ (fun h => by cases h) ?_
      clear hK K
      try simp only [Act.put, List.getElem_toArray, List.getElem_cons_succ, List.getElem_cons_zero, List.setIfInBounds_toArray, List.set_cons_zero, List.set_cons_succ]
      refine wpAnyE.done (by kernel_rfl) ?_
      have NX := QD.next (l' := l ++ [u]) hb2 hg3 (by rw [List.length_append, rowU_append]; exact ho3)
      have hBB := hBqD.trans NX.2
      have HN : Hid (_ ∧ _) := ⟨NX.1, hBB⟩
      clear NX hBB hg3 ho3 hne3 hneB hp3 hv2 hb2 QD hbD hBqD zf zc Q2
      generalize W3.setCell ⟨q, 0, none⟩ (.slice g' m' c') = W4 at *
      go_wp2
      go_ret
      exact ⟨_, ret_int HR.out.symm, by rw [HQ.out]; exact HN.out.1, HN.out.2⟩
  | true =>
    have z4 : b2 = false := by simpa using z3
    subst z4
    clear z3
    go_wp2_with fail
    refine hcj.mono ?_
    clear hcj
    rintro e w3 ⟨rfl, hb3⟩
    have Q3 := Q1.below hb3
    have hbk3 := (hb3.block _ hBl).trans hbk1
    have hBq3 := hBq.trans (hb3.mono (Nat.le_of_lt Q1.lt))
    have hBl3 := heap_lt hbk3
    clear hb3 hbk1 hBq hBl Q1 y0 y1 y2 hh c0 z1 z2
    cases hq : l.any (sameU u.name) with
    | true =>
      have HR : Hid (joinE l u = 6) := by unfold Hid; rw [HJ3.out, if_pos hq]
      have HQ : Hid (joinL l u = l) := joinL_bad HR.out (by decide)
      clear hq HJ3
      go_wp2
      go_ret
      exact ⟨_, ret_int HR.out.symm, by rw [HQ.out]; exact Q3, hBq3⟩
    | false =>
      have HR : Hid (joinE l u = 0) := by unfold Hid; rw [HJ3.out, if_neg (by rw [hq]; decide)]
      have HQ : Hid (joinL l u = l ++ [u]) := joinL_ok HR.out
      clear hq HJ3
      go_wp2_with fail
      have hdr := (Below.refl w3.heap.size w3).drew
      have QD := Q3.below hdr
      have hbD := (hdr.block _ hBl3).trans hbk3
      have hBqD := hBq3.trans (hdr.mono (Nat.le_of_lt Q3.lt))
      clear Q3 hbk3 hBq3 hdr hBl3
      refine wp_region_E (fun W => W.heap[q]? = some (.cells #[.slice a l.length c] 165) ∧ W.heap[B]? = some (.cells #[.string u.name, .int .i64 u.old, .int .i64 u.new] 40)) (fun k => k == 10) (by kernel_rfl) ⟨QD.blk, hbD⟩ (fun hS => ?_)
      generalize w3.drew = W0 at *
      refine wpAnyE.take (i := 0) (v := ?_) rfl (by kernel_rfl) (by kernel_rfl) (by kernel_rfl) (by kernel_rfl) (fun _ _ _ h => h) (Or.inl ⟨by rfl, ?_⟩) (by assumption) ?_
      rotate_left
      · intro w hSw; have z := c1_of hSw.1; obtain ⟨z0, z1, z2⟩ := c3_of hSw.2; clear hSw; go_simp; with_reducible rfl
      try simp only [Act.put, List.getElem_toArray, List.getElem_cons_zero, List.setIfInBounds_toArray, List.set_cons_zero, List.set_cons_succ]
      refine wpAnyE.take (i := 1) (v := ?_) rfl (by kernel_rfl) (by kernel_rfl) (by kernel_rfl) (by kernel_rfl) (fun _ _ _ h => h) (Or.inl ⟨by rfl, ?_⟩) (by assumption) ?_
      rotate_left
      · intro w hSw; have z := c1_of hSw.1; obtain ⟨z0, z1, z2⟩ := c3_of hSw.2; clear hSw; go_simp; with_reducible rfl
      try simp only [Act.put, List.getElem_toArray, List.getElem_cons_succ, List.getElem_cons_zero, List.setIfInBounds_toArray, List.set_cons_zero, List.set_cons_succ]
      refine wpAnyE.take (i := 2) (v := ?_) rfl (by kernel_rfl) (by kernel_rfl) (by kernel_rfl) (by kernel_rfl) (fun _ _ _ h => h) (Or.inl ⟨by rfl, ?_⟩) (by assumption) ?_
      rotate_left
      · intro w hSw; have z := c1_of hSw.1; obtain ⟨z0, z1, z2⟩ := c3_of hSw.2; clear hSw; go_simp; with_reducible rfl
      try simp only [Act.put, List.getElem_toArray, List.getElem_cons_succ, List.getElem_cons_zero, List.setIfInBounds_toArray, List.set_cons_zero, List.set_cons_succ]
      refine wpAnyE.take (i := 3) (v := ?_) rfl (by kernel_rfl) (by kernel_rfl) (by kernel_rfl) (by kernel_rfl) (fun _ _ _ h => h) (Or.inl ⟨by rfl, ?_⟩) (by assumption) ?_
      rotate_left
      · intro w hSw; have z := c1_of hSw.1; obtain ⟨z0, z1, z2⟩ := c3_of hSw.2; clear hSw; go_simp; with_reducible rfl
      try simp only [Act.put, List.getElem_toArray, List.getElem_cons_succ, List.getElem_cons_zero, List.setIfInBounds_toArray, List.set_cons_zero, List.set_cons_succ]
      refine wpAnyE.take (i := 4) (v := ?_) rfl (by kernel_rfl) (by kernel_rfl) (by kernel_rfl) (by kernel_rfl) (fun _ _ _ h => h) (Or.inl ⟨by rfl, ?_⟩) (by assumption) ?_
      rotate_left
      · intro w hSw; have z := c1_of hSw.1; obtain ⟨z0, z1, z2⟩ := c3_of hSw.2; clear hSw; go_simp; with_reducible rfl
      try simp only [Act.put, List.getElem_toArray, List.getElem_cons_succ, List.getElem_cons_zero, List.setIfInBounds_toArray, List.set_cons_zero, List.set_cons_succ]
      refine wpAnyE.take (i := 5) (v := ?_) rfl (by kernel_rfl) (by kernel_rfl) (by kernel_rfl) (by kernel_rfl) (fun _ _ _ h => h) (Or.inl ⟨by rfl, ?_⟩) (by assumption) ?_
      rotate_left
      · intro w hSw; have z := c1_of hSw.1; obtain ⟨z0, z1, z2⟩ := c3_of hSw.2; clear hSw; go_simp; with_reducible rfl
      try simp only [Act.put, List.getElem_toArray, List.getElem_cons_succ, List.getElem_cons_zero, List.setIfInBounds_toArray, List.set_cons_zero, List.set_cons_succ]
      refine wpAnyE.one (i := 6) (by kernel_rfl) rfl (fun K hK => ?_)
      go_simp
      obtain ⟨W2, hW2⟩ : ∃ W2, W2 = W0.alloc (.cells #[.string u.name, .int .i64 u.old, .int .i64 u.new] 40) := ⟨_, rfl⟩
      have hb2 : Below W0.heap.size W0 W2 := by rw [hW2]; exact below_alloc _ _
      have hv2 : W2.heap[W0.heap.size]? = some (.cells #[.string u.name, .int .i64 u.old, .int .i64 u.new] 40) := by rw [hW2]; exact heap_alloc_new W0 _
      rw [← hW2]
      clear hW2
      have hS2 : W2.heap[q]? = some (.cells #[.slice a l.length c] 165) ∧ W2.heap[B]? = some (.cells #[.string u.name, .int .i64 u.old, .int .i64 u.new] 40) := ⟨(hb2.block _ (heap_lt hS.1)).trans hS.1, (hb2.block _ (heap_lt hS.2)).trans hS.2⟩
      refine hK _ _ (fun _ => hS2) ?_
      clear hK K hS
      try simp only [Act.put, List.getElem_toArray, List.getElem_cons_succ, List.getElem_cons_zero, List.setIfInBounds_toArray, List.set_cons_zero, List.set_cons_succ]
      refine wpAnyE.one (i := 7) (by kernel_rfl) rfl (fun K hK => ?_)
      have Q2 := QD.below hb2
      obtain ⟨v', W3, hr3, ho3, hg3⟩ := app_up W2 (q + 1) 26 _ l.length (rowU l) Q2.own W0.heap.size _ hv2 rfl (by intro u hu; simp only [List.mem_cons, List.not_mem_nil, or_false] at hu; rcases hu with rfl | rfl | rfl <;> rfl) (by omega) (by have := Q2.lt; omega)
      obtain ⟨g', m', c', rfl⟩ := own_slice_g ho3
      refine step_append_g (by rfl) (.tmp 43) (.tmp 45) (by rfl) _ _ (by rfl) (by rfl) hr3 ?_
      have hne3 : some q ≠ (Value.slice a l.length c).ownBlock := fun e => by have := (Q2.own.lt _ e.symm).1; omega
      have hneB : some B ≠ (Value.slice a l.length c).ownBlock := fun e => hBown e.symm
      have hp3 := (hg3.block _ Q2.lt hne3).trans Q2.blk
      have hS3 : W3.heap[q]? = some (.cells #[.slice a l.length c] 165) ∧ W3.heap[B]? = some (.cells #[.string u.name, .int .i64 u.old, .int .i64 u.new] 40) := ⟨hp3, (hg3.block _ (heap_lt hS2.2) hneB).trans hS2.2⟩
      refine hK _ _ (fun _ => hS3) ?_
      clear hK K hS2 hr3
      try simp only [Act.put, List.getElem_toArray, List.getElem_cons_succ, List.getElem_cons_zero, List.setIfInBounds_toArray, List.set_cons_zero, List.set_cons_succ]
      refine wpAnyE.one (i := 8) (by kernel_rfl) rfl (fun K hK => ?_)
      go_simp
      refine hK _ _ (fun _ => hS3) ?_
      clear hK K
      try simp only [Act.put, List.getElem_toArray, List.getElem_cons_succ, List.getElem_cons_zero, List.setIfInBounds_toArray, List.set_cons_zero, List.set_cons_succ]
      refine wpAnyE.one (i := 9) (by kernel_rfl) rfl (fun K hK => ?_)
      go_simp
      refine hK _ _ (fun _ => hS3) ?_
      clear hK K
      try simp only [Act.put, List.getElem_toArray, List.getElem_cons_succ, List.getElem_cons_zero, List.setIfInBounds_toArray, List.set_cons_zero, List.set_cons_succ]
      have zf := f_of (o := 0) hS3.1
      have zc := c1_of hS3.1
      clear hS3
      refine wpAnyE.one (i := 10) (by kernel_rfl) rfl (fun K hK => ?_)
      go_simp
      refine hK _ _ (fun h => by cases h) ?_
      clear hK K
      try simp only [Act.put, List.getElem_toArray, List.getElem_cons_succ, List.getElem_cons_zero, List.setIfInBounds_toArray, List.set_cons_zero, List.set_cons_succ]
      refine wpAnyE.done (by kernel_rfl) ?_
      have NX := QD.next (l' := l ++ [u]) hb2 hg3 (by rw [List.length_append, rowU_append]; exact ho3)
      have hBB := hBqD.trans NX.2
      have HN : Hid (_ ∧ _) := ⟨NX.1, hBB⟩
      clear NX hBB hg3 ho3 hne3 hneB hp3 hv2 hb2 QD hbD hBqD zf zc Q2
      generalize W3.setCell ⟨q, 0, none⟩ (.slice g' m' c') = W4 at *
      go_wp2
      go_ret
      exact ⟨_, ret_int HR.out.symm, by rw [HQ.out]; exact HN.out.1, HN.out.2⟩

theorem eu_bad {l m : List Up} {k : Nat} {r : Int} (hk : k < m.length) (H : r = eachU l (m.drop k)) (h : joinE l m[k] ≠ 0) : r = joinE l m[k] := by
  rw [H, List.drop_eq_getElem_cons hk, eachU, if_pos h]
theorem eu_next {l m : List Up} {k : Nat} {r : Int} (hk : k < m.length) (H : r = eachU l (m.drop k)) (h : joinE l m[k] = 0) : r = eachU (joinL l m[k]) (m.drop (k + 1)) := by
  rw [H, List.drop_eq_getElem_cons hk, eachU, if_neg (fun e => e h), joinL_ok h]
theorem eu_end {l m : List Up} {k : Nat} {r : Int} (hk : ¬ k < m.length) (H : r = eachU l (m.drop k)) : r = 0 := by
  rw [H, List.drop_of_length_le (by omega)]; rfl
theorem joinL_length (l : List Up) (u : Up) : (joinL l u).length ≤ l.length + 1 := by
  unfold joinL; split
  · simp
  · omega

set_option maxHeartbeats 800000 in
theorem each_join (a : Option Addr) (c : Nat) (us : List Up) (q : Nat) (v0 : Value) (w0 w : World) (hg : Glob w0) (h : HoldsU w0 a us) (hB : Below w0.heap.size w0 w) (hp : w0.heap.size ≤ q) (Q0 : Queue w q v0 []) (hl : us.length ≤ 900) :
    Calls Tryz.prog 71 #[.slice a us.length c, .func (.func 117) #[.pointer (some ⟨q, 0, none⟩)] #[]] w fun e w' => e = .returned (.int .i64 (eachU [] us)) ∧ Below w0.heap.size w0 w' := by
  have hl' : us.length ≤ 9223372036854775807 := by omega
  go_enter Tryz.func71, Tryz.ntmps71
  go_wp2
  go_loopw [10] (fun i wr => ∃ (k : Nat) (v : Value) (l : List Up), i = .int .i64 k ∧ k ≤ us.length ∧ l.length ≤ k ∧ Queue wr q v l ∧ Below w0.heap.size w0 wr ∧ Hid (eachU [] us = eachU l (us.drop k))) (fun i _ => us.length - (intOf i).toNat)
  case atStart => exact ⟨0, v0, [], rfl, Nat.zero_le _, Nat.le_refl _, Q0, hB, rfl⟩
  case round =>
    clear Q0
    obtain ⟨k, v, l, rfl, hk, hLk, QH, hBr, H⟩ := hrel
    by_cases hlt : k < us.length
    · obtain ⟨b, off, rfl, hb, hc⟩ := (h.below hBr) k hlt
      obtain ⟨y0, y1, y2⟩ := hc k hlt
      clear hc
      have hA := below_alloc wr (.cells #[.string us[k].name, .int .i64 us[k].old, .int .i64 us[k].new] 40)
      have hBA := hBr.trans (hA.mono hBr.size)
      go_wp2_with fail
      refine (join_any q v l us[k] _ (hg.below hBA) (QH.below hA) (by omega)).mono ?_
      rintro e w1 ⟨v', rfl, Q1, hb1⟩
      have hB1 := hBA.trans (hb1.mono hp)
      have HLl : Hid ((joinL l us[k]).length ≤ k + 1) := by have := joinL_length l us[k]; unfold Hid; omega
      clear hb1 hA y0 y1 y2 hBr QH hBA
      by_cases hz : joinE l us[k] = 0
      · have HN : Hid (eachU [] us = eachU (joinL l us[k]) (us.drop (k + 1))) := eu_next hlt H.out hz
        rw [hz]
        clear hz
        go_wp2
        go_roundw
        case rel => exact ⟨k + 1, v', _, by go_num, by omega, HLl.out, Q1, hB1, HN⟩
        case measure => simp [intOf]; omega
      · have HR : Hid (eachU [] us = joinE l us[k]) := eu_bad hlt H.out hz
        have hz' : (joinE l us[k] != 0) = true := by simpa using hz
        clear hz
        go_wp2
        go_ret
        exact ⟨ret_int HR.out.symm, hB1⟩
    · have HR : Hid (eachU [] us = 0) := eu_end hlt H.out
      go_wp2
      go_ret
      exact ⟨ret_int HR.out.symm, hBr⟩

set_option maxHeartbeats 800000 in
theorem ucheck_any (a : Option Addr) (c : Nat) (us : List Up) (w : World) (hg : Glob w) (h : HoldsU w a us) (hl : us.length ≤ 9223372036854775807) :
    Calls Tryz.prog 66 #[.slice a us.length c] w fun e w' => e = .returned (.int .i64 (checkU us)) ∧ Below w.heap.size w w' := by
  have hmf : ∀ (fn : Fn) (first cap : Array Value) (w : World), (Instr.makeFunc fn first cap).run Tryz.prog w = .ok (.func fn first cap) w := fun _ _ _ _ => rfl
  by_cases h0 : us.length = 0
  · have HR : Hid (5 = checkU us) := by unfold Hid checkU; rw [if_pos h0]
    rw [h0]
    clear h0 hl
    go_enter Tryz.func66, Tryz.ntmps66
    go_wp2
    go_ret
    exact ⟨ret_int HR.out, Below.refl _ _⟩
  by_cases h4 : 4 < us.length
  · have HR : Hid (2 = checkU us) := by unfold Hid checkU; rw [if_neg h0, if_pos h4]
    have z0 : ((us.length : Int) == 0) = false := by rw [beq_eq_false_iff_ne]; omega
    have z1 : (4 : Int) < (us.length : Int) := by omega
    clear h0 h4
    go_enter Tryz.func66, Tryz.ntmps66
    go_wp2
    go_ret
    exact ⟨ret_int HR.out, Below.refl _ _⟩
  have HR : Hid (eachU [] us = checkU us) := by unfold Hid checkU; rw [if_neg h0, if_neg h4]
  have z0 : ((us.length : Int) == 0) = false := by rw [beq_eq_false_iff_ne]; omega
  have z1 : ¬ (4 : Int) < (us.length : Int) := by omega
  have h9 : us.length ≤ 900 := by omega
  have hA := below_alloc w (.cells #[.slice none 0 0] 165)
  have Q0 : Queue (w.alloc (.cells #[.slice none 0 0] 165)) w.heap.size (.slice none 0 0) [] := ⟨heap_alloc_new w _, World.ownsRow_nil _ _ _ _⟩
  have hej := each_join a c us w.heap.size _ w _ hg h hA (Nat.le_refl _) Q0 h9
  clear h0 h4 Q0 h9 hA
  go_enter Tryz.func66, Tryz.ntmps66
  go_wp2_with fail
  refine hej.mono ?_
  clear hej
  rintro e w1 ⟨rfl, hb⟩
  go_wp2
  go_ret
  exact ⟨ret_int HR.out, hb⟩
end

section
open Go.RowKit
set_option maxRecDepth 100000
end

section
open Go.RowKit
set_option maxRecDepth 100000

theorem less_ntrans {a b c : List UInt8} (h1 : Op.bytesLess a b = false) (h2 : Op.bytesLess b c = false) : Op.bytesLess a c = false := by
  cases q : Op.bytesLess a c with
  | false => rfl
  | true =>
    by_cases e : b = c
    · rw [e, q] at h1; cases h1
    · have h3 := less_total b c h2 e
      have := less_trans a c b q h3
      rw [this] at h1; cases h1
theorem wpList_append_g {t : TypeId} {ops : Array Oper} {rest : List Oper} {o : Oper} {a : Act} {w : World} {Q : Exit → Act → World → Prop} (hgd : o.guard = none) (d s : Operand)
    (ho : o.op = .call { callee := .builtin .append, args := #[d, s], argTypes := #[t, t] }) (v u : Value) (hd : a.eval d = v) (hs : a.eval s = u) {v' : Value} {w' : World}
    (hr : (Builtin.append_ #[t, t] o.type #[v, u]).run Tryz.prog w = .ok v' w') (h : wpList Tryz.prog ops Q rest (a.put o.dst v') w') : wpList Tryz.prog ops Q (o :: rest) a w := by
  refine wpList_plain hgd fun K hK => ?_
  unfold Oper.wp execOp
  simp only [ho, resolve, invoke, builtin, Sem.run_bind, Sem.run_pure, Result.andThen_ok, List.map_toArray, List.map_cons, List.map_nil, hd, hs, hr]
  exact hK _ _ h

theorem holdU_row' {w : World} {x : Addr} {m : List Up} (h : ∀ i, i < m.length → ∃ b off, x = ⟨b, off, none⟩ ∧ ∀ k (hk : k < m.length), UpAt w b (off + k * 3) m[k]) : ∀ j u, (rowU m)[j]? = some u → w.cell? (x.add j) = some u := by
  intro j u hj
  have hlt : j < m.length * 3 := by
    rcases Nat.lt_or_ge j (m.length * 3) with q | q
    · exact q
    · rw [List.getElem?_eq_none (by rw [rowU_length]; exact q)] at hj; cases hj
  obtain ⟨b, off, rfl, hc⟩ := h (j / 3) (by omega)
  have hadd : (⟨b, off, none⟩ : Addr).add j = ⟨b, off + j, none⟩ := by unfold Addr.add; split <;> simp_all
  rw [hadd]
  have hk : j / 3 < m.length := by omega
  have hr := rowU_get m (j / 3) (j % 3) hk (Nat.mod_lt _ (by decide))
  rw [show j / 3 * 3 + j % 3 = j by omega, hj] at hr
  obtain ⟨c0, c1, c2⟩ := hc (j / 3) hk
  have : j % 3 = 0 ∨ j % 3 = 1 ∨ j % 3 = 2 := by omega
  rcases this with e | e | e
  · rw [e] at hr
    rw [show off + j = off + j / 3 * 3 by omega, c0]
    simpa [Up.cells] using hr.symm
  · rw [e] at hr
    rw [show off + j = off + j / 3 * 3 + 1 by omega, c1]
    simpa [Up.cells] using hr.symm
  · rw [e] at hr
    rw [show off + j = off + j / 3 * 3 + 2 by omega, c2]
    simpa [Up.cells] using hr.symm
end

section
open Go.RowKit
set_option maxRecDepth 100000
end

section
open Go.RowKit
set_option maxRecDepth 100000
end

section
open Go.RowKit
set_option maxRecDepth 100000

/-- two refs held against each other. -/
def sameR (x y : Rf) : Bool := x.name.toList == y.name.toList && x.id == y.id
theorem neqR (x y : Rf) (w : World) : (binOp .neq 65 x.val y.val).run Tryz.prog w = .ok (.bool (!sameR x y)) w := by
  have u3 := Tryz.underlying3
  have a3 := Tryz.isAgg3
  have z3 := Tryz.sizeOf3
  have u9 := Tryz.underlying9
  have a9 := Tryz.isAgg9
  have z9 := Tryz.sizeOf9
  have hS : Tryz.prog.underlying 65 = some (.struct (Tryz.prog.fieldsOf 65)) := by kernel_rfl
  have hp : Tryz.prog.stoodInHeld 65 = false := by kernel_rfl
  rw [run_neq_struct, show (10000 : Nat) = 9999 + 1 from rfl, run_equalIn_agg w 9999 65 _ _ hS hp]
  simp only [Program.fieldsOf, Tryz.underlying65]
  go_simp
  unfold sameR
  by_cases h1 : x.name.toList = y.name.toList <;> by_cases h2 : x.id = y.id <;> simp [h1, h2]
end

section
open Go.RowKit
set_option maxRecDepth 100000
end
end Go.Proofs.YtehmlpkapjdhkaaGreatDoor
