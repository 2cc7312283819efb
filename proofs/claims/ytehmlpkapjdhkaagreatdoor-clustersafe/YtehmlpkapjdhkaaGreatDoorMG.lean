import Derived.Test.YtehmlpkapjdhkaaGreatDoorMP
import Derived.Test.YtehmlpkapjdhkaaGreatDoorMH
import Derived.Laws.CopyOwn
import Derived.Test.YtehmlpkapjdhkaaGreatDoorSh
import Derived.Test.YtehmlpkapjdhkaaGreatDoorMV4
import Derived.Shelf.Strconv.Itoa3
import Derived.Lib.LaidTab
namespace Go.Proofs.YtehmlpkapjdhkaaGreatDoor
section
open Go.RowKit

/-- an error's number. -/
def R7 (x : Int) : Prop := 0 ≤ x ∧ x ≤ 7
theorem R7.ite {c : Prop} [Decidable c] {a b : Int} (ha : R7 a) (hb : R7 b) : R7 (if c then a else b) := by split <;> assumption
theorem r7 (x : Nat) (h : x ≤ 7 := by decide) : R7 (x : Int) := ⟨by omega, by omega⟩
theorem r7_links (id kind : Int) : ∀ (L : List Int) (i : Nat) (last : Int), R7 (linksE id kind i last L)
  | [], _, _ => r7 0
  | _ :: xs, _, _ => (r7 3).ite ((r7 4).ite (r7_links id kind xs _ _))
theorem r7_check (id kind : Int) (L : List Int) (n : Nat) : R7 (checkE id kind L n) :=
  (r7 3).ite ((r7 7).ite ((r7 2).ite ((r7_links _ _ _ _ _).ite ((r7 1).ite (r7 0)))))
theorem r7_eachE : ∀ m : List Ob, R7 (eachE m)
  | [] => r7 0
  | x :: m => R7.ite (r7_check _ _ _ _) (r7_eachE m)
theorem r7_linkS (l : List Ob) (kind : Int) : ∀ (L : List Int) (i : Nat), R7 (linkS l kind i L)
  | [], _ => r7 0
  | _ :: xs, _ => (r7 5).ite ((r7 7).ite (r7_linkS l kind xs _))
theorem r7_chk1 (l : List Ob) (last : Int) (x : Ob) : R7 (chk1 l last x) := R7.ite (r7_check _ _ _ _) ((r7 4).ite (r7_linkS _ _ _ _))
theorem r7_eachC (l : List Ob) : ∀ (m : List Ob) (last : Int), R7 (eachC l last m)
  | [], _ => r7 0
  | x :: m, _ => (r7_chk1 _ _ _).ite (r7_eachC l m _)
theorem r7_checkS (l : List Ob) : R7 (checkS l) := (r7 2).ite (r7_eachC _ _ _)
theorem r7_hit : ∀ b, R7 (hitE b)
  | true => r7 0
  | false => r7 6
theorem r7_takeE (L : List Ob) (x : Ob) : R7 (takeE L x) := by
  unfold takeE
  split
  · exact (r7 0).ite (r7_hit _)
  · exact r7 0
theorem r7_takeErr : ∀ (m L : List Ob), R7 (takeErr L m)
  | [], _ => r7 0
  | x :: m, _ => (r7_takeE _ _).ite (r7_takeErr m _)
theorem r7_add (l m : List Ob) : R7 (addE l m) := (r7_checkS _).ite ((r7 2).ite ((r7_eachE _).ite ((r7_takeErr _ _).ite (r7_checkS _))))
theorem r7_name (s : ByteArray) : R7 (nameE s) := (r7 2).ite ((r7 1).ite (r7 0))
theorem r7_commit (l : List Ob) (id : Int) : R7 (commitE l id) := (r7 5).ite ((r7 7).ite (r7 0))
theorem r7_eachR (o : List Ob) : ∀ (l : List Rf) (last : ByteArray), R7 (eachR o last l)
  | [], _ => r7 0
  | r :: rs, _ => (r7_name _).ite ((r7 4).ite ((r7_commit _ _).ite (r7_eachR o rs _)))
theorem r7_refs (l : List Rf) (o : List Ob) : R7 (refsE l o) := (r7_checkS _).ite ((r7 2).ite ((r7_eachR _ _ _).ite ((r7 6).ite (r7 0))))
theorem r7_there (l : List Ob) (ids : List Int) : R7 (thereE l ids) := (r7 0).ite (r7 5)
theorem r7_behind (l : List Ob) (a b : Int) : R7 (behindE l a b) := (r7_checkS _).ite ((r7_there _ _).ite ((r7 7).ite (r7 0)))
theorem r7_may (o : List Ob) (f : Bool) (u : Up) : R7 (mayE o f u) := (r7_behind _ _ _).ite ((r7 0).ite (r7 4))
theorem r7_follow (o : List Ob) (f : Bool) (l : List Rf) (u : Up) : R7 (followE o f l u) := (r7 4).ite ((r7 0).ite (r7_may _ _ _))
theorem r7_run (o : List Ob) (f : Bool) : ∀ (us : List Up) (l : List Rf), R7 (runE o f l us)
  | [], _ => r7 0
  | u :: us, _ => (r7_follow _ _ _ _).ite (r7_run o f us _)
theorem r7_join (q : List Up) (u : Up) : R7 (joinE q u) := (r7_name _).ite ((r7 3).ite ((r7 1).ite ((r7 6).ite (r7 0))))
theorem r7_eachU : ∀ (us q : List Up), R7 (eachU q us)
  | [], _ => r7 0
  | u :: us, _ => (r7_join _ _).ite (r7_eachU us _)
theorem r7_checkU (us : List Up) : R7 (checkU us) := (r7 5).ite ((r7 2).ite (r7_eachU _ _))
theorem r7_apply (l : List Rf) (o : List Ob) (us : List Up) (f : Bool) : R7 (applyE l o us f) := (r7_refs _ _).ite ((r7_checkU _).ite ((r7_run _ _ _ _).ite (r7_refs _ _)))
theorem r7_push (m : List Ob) (us : List Up) : R7 (pushE m us) := (r7 2).ite ((r7_eachE _).ite (r7_checkU _))
theorem r7_try (s : List Ob) (l : List Rf) (m : List Ob) (us : List Up) (f : Bool) : R7 (tryE s l m us f) := (r7_push _ _).ite ((r7_add _ _).ite (r7_apply _ _ _ _))

/- order does not matter: any order of the updates. -/
theorem checkU_perm {us vs : List Up} (hp : vs.Perm us) (h : checkU us = 0) : checkU vs = 0 := by
  obtain ⟨h1, h2, h3, h4⟩ := checkU_iff.1 h
  exact checkU_iff.2 ⟨by rw [hp.length_eq]; exact h1, by rw [hp.length_eq]; exact h2, fun u hu => h3 u (hp.mem_iff.1 hu), apart_perm h4 hp⟩
theorem apply_perm {l : List Rf} {o : List Ob} {us vs : List Up} {force : Bool} (hp : vs.Perm us) (h : applyE l o us force = 0) : applyE l o vs force = 0 ∧ runL l vs = runL l us := by
  obtain ⟨h1, h2, h3, h4⟩ := applyE_iff.1 h
  obtain ⟨c1, c2, c3, c4⟩ := checkU_iff.1 h2
  have hs := refs_sort h1
  have d4 := apart_perm c4 hp
  have hr : ∀ u ∈ vs, nameE u.name = 0 := fun u hu => (c3 u (hp.mem_iff.1 hu)).name
  have hd := (runE_iff us (fun u hu => (c3 u hu).name) c4 hs).1 h3
  have hl : runL l vs = runL l us := by
    refine look_ext (runL_sort _ hs) (runL_sort _ hs) (runL_ids _ (refs_ids h1)) (runL_ids _ (refs_ids h1)) fun nm => ?_
    rw [runL_look _ d4 hs, runL_look _ c4 hs]
    by_cases hx : ∃ u ∈ us, u.name = nm
    · obtain ⟨u, hu, rfl⟩ := hx
      rw [newOf_mem c4 hu, newOf_mem d4 (hp.mem_iff.2 hu)]
    · rw [newOf_none (fun u hu e => hx ⟨u, hu, e⟩), newOf_none (fun u hu e => hx ⟨u, hp.mem_iff.1 hu, e⟩)]
  refine ⟨applyE_iff.2 ⟨h1, checkU_perm hp h2, (runE_iff _ hr d4 hs).2 fun u hu => hd u (hp.mem_iff.1 hu), ?_⟩, hl⟩
  rw [hl]; exact h4
theorem push_perm {m : List Ob} {us vs : List Up} (hp : vs.Perm us) (h : pushE m us = 0) : pushE m vs = 0 := by
  obtain ⟨h1, h2, h3⟩ := pushE_iff.1 h
  exact pushE_iff.2 ⟨h1, h2, checkU_perm hp h3⟩
theorem try_perm {s : List Ob} {l : List Rf} {m : List Ob} {us vs : List Up} {f : Bool} (hp : vs.Perm us) (h : tryE s l m us f = 0) : tryE s l m vs f = 0 := by
  obtain ⟨h1, h2, h3⟩ := tryE_iff.1 h
  exact tryE_iff.2 ⟨push_perm hp h1, h2, (apply_perm hp h3).1⟩
theorem text_perm {us vs : List Up} (hp : vs.Perm us) (h : checkU us = 0) : textS vs = textS us := by
  unfold textS
  rw [if_pos h, if_pos (checkU_perm hp h)]
  unfold textOf
  have c4 := (checkU_iff.1 h).2.2.2
  have d4 := apart_perm c4 hp
  rw [SortU.ext (sortU_sort d4) (sortU_sort c4) ((sortU_perm vs).trans (hp.trans (sortU_perm us).symm))]
/-- the first and the last change places. -/
def swapE (us : List Up) : List Up := match us with
  | [a, b] => [b, a]
  | [a, b, c] => [c, b, a]
  | [a, b, c, d] => [d, b, c, a]
  | l => l
theorem swapE_perm (us : List Up) : (swapE us).Perm us := by
  unfold swapE
  split
  · rename_i a b
    exact List.reverse_perm [a, b]
  · rename_i a b c
    exact List.reverse_perm [a, b, c]
  · rename_i a b c d
    exact (List.Perm.cons d (List.Perm.swap c b [a])).trans (List.reverse_perm [a, b, c, d])
  · exact List.Perm.refl _
end

section
open Go.RowKit
set_option maxRecDepth 100000

/-- three votes, as a value. -/
abbrev b3V (a b c : ByteArray) : Value := .agg #[.string a, .string b, .string c]
def one1 (a v : ByteArray) : Nat := if (a.toList == v.toList) = true then 1 else 0
def cnt (a b c v : ByteArray) : Nat := one1 a v + one1 b v + one1 c v
theorem one1_le (a v : ByteArray) : one1 a v ≤ 1 := by unfold one1; split <;> omega

theorem one1_t {a v : ByteArray} (h : (a.toList == v.toList) = true) : one1 a v = 1 := by unfold one1; rw [if_pos h]
theorem one1_f {a v : ByteArray} (h : (a.toList == v.toList) = false) : one1 a v = 0 := by unfold one1; rw [h]; rfl

theorem idx0 (a b c : ByteArray) (w : World) : (Instr.index 144 (b3V a b c) (.int .i64 0)).run Tryz.prog w = .ok (.string a) w := by rfl
theorem idx1 (a b c : ByteArray) (w : World) : (Instr.index 144 (b3V a b c) (.int .i64 1)).run Tryz.prog w = .ok (.string b) w := by rfl
theorem idx2 (a b c : ByteArray) (w : World) : (Instr.index 144 (b3V a b c) (.int .i64 2)).run Tryz.prog w = .ok (.string c) w := by rfl

set_option maxHeartbeats 1000000 in
theorem count_any (a b c v : ByteArray) (w : World) : Calls Tryz.prog 164 #[b3V a b c, .string v] w fun e w' => e = .returned (.int .i64 (cnt a b c v : Nat)) ∧ Below w.heap.size w w' := by
  have hA := below_alloc w (.cells #[.string a, .string b, .string c] 144)
  have hbk := heap_alloc_new w (.cells #[.string a, .string b, .string c] 144)
  go_enter Tryz.func164, Tryz.ntmps164
  go_wp2
  go_loopw [5, 9] (fun n i wr => ∃ (m k : Nat), n = .int .i64 m ∧ i = .int .i64 k ∧ k ≤ 3 ∧ m = (if 0 < k then one1 a v else 0) + (if 1 < k then one1 b v else 0) + (if 2 < k then one1 c v else 0) ∧ Below w.heap.size w wr) (fun _ i _ => 3 - (intOf i).toNat)
  case atStart => exact ⟨0, 0, rfl, rfl, by omega, rfl, hA⟩
  case round =>
    obtain ⟨m, k, rfl, rfl, hk, hm, hB⟩ := hrel
    have h1 := one1_le a v
    have h2 := one1_le b v
    have h3 := one1_le c v
    have i0 := idx0 a b c wr
    have i1 := idx1 a b c wr
    have i2 := idx2 a b c wr
    match k, hk with
    | 0, _ =>
      have hm0 : m = 0 := by simpa using hm
      subst hm0
      clear hm
      cases hq : (a.toList == v.toList) with
      | true =>
        have HO : Hid (one1 a v = 1) := one1_t hq
        go_wp2
        go_roundw
        case rel => exact ⟨1, 1, by go_num, by go_num, by omega, by have := HO.out; simp; omega, hB⟩
        case measure => simp [intOf]
      | false =>
        have HO : Hid (one1 a v = 0) := one1_f hq
        go_wp2
        go_roundw
        case rel => exact ⟨0, 1, by go_num, by go_num, by omega, by have := HO.out; simp; omega, hB⟩
        case measure => simp [intOf]
    | 1, _ =>
      have hm0 : m = one1 a v := by simpa using hm
      clear hm
      have hw1 : IntKind.i64.wrap ((m : Int) + 1) = (m : Int) + 1 := by rw [hm0]; simp [IntKind.wrap, IntKind.bits, IntKind.signed]; omega
      cases hq : (b.toList == v.toList) with
      | true =>
        have HO : Hid (one1 b v = 1) := one1_t hq
        have HM : Hid (m = one1 a v) := hm0
        clear hm0 h1 h2 h3
        go_wp2
        go_roundw
        case rel => exact ⟨m + 1, 2, by simp, by go_num, by omega, by have := HO.out; have := HM.out; simp; omega, hB⟩
        case measure => simp [intOf]
      | false =>
        have HO : Hid (one1 b v = 0) := one1_f hq
        have HM : Hid (m = one1 a v) := hm0
        clear hm0 h1 h2 h3
        go_wp2
        go_roundw
        case rel => exact ⟨m, 2, by go_num, by go_num, by omega, by have := HO.out; have := HM.out; simp; omega, hB⟩
        case measure => simp [intOf]
    | 2, _ =>
      have hm0 : m = one1 a v + one1 b v := by simpa using hm
      clear hm
      have hw1 : IntKind.i64.wrap ((m : Int) + 1) = (m : Int) + 1 := by rw [hm0]; simp [IntKind.wrap, IntKind.bits, IntKind.signed]; omega
      cases hq : (c.toList == v.toList) with
      | true =>
        have HO : Hid (one1 c v = 1) := one1_t hq
        have HM : Hid (m = one1 a v + one1 b v) := hm0
        clear hm0 h1 h2 h3
        go_wp2
        go_roundw
        case rel => exact ⟨m + 1, 3, by simp, by go_num, by omega, by have := HO.out; have := HM.out; simp; omega, hB⟩
        case measure => simp [intOf]
      | false =>
        have HO : Hid (one1 c v = 0) := one1_f hq
        have HM : Hid (m = one1 a v + one1 b v) := hm0
        clear hm0 h1 h2 h3
        go_wp2
        go_roundw
        case rel => exact ⟨m, 3, by go_num, by go_num, by omega, by have := HO.out; have := HM.out; simp; omega, hB⟩
        case measure => simp [intOf]
    | 3, _ =>
      have HM : Hid (m = cnt a b c v) := by unfold Hid cnt; simpa using hm
      clear hm h1 h2 h3
      go_wp2
      go_ret
      exact ⟨ret_int (by rw [HM.out]), hB⟩

/-- more than half. -/
def wonB (a b c v : ByteArray) : Bool := decide (2 ≤ cnt a b c v)
set_option maxHeartbeats 400000 in
theorem won_any (a b c v : ByteArray) (w : World) : Calls Tryz.prog 99 #[b3V a b c, .string v] w fun e w' => e = .returned (.bool (wonB a b c v)) ∧ Below w.heap.size w w' := by
  have hA := below_alloc w (.cells #[.string a, .string b, .string c] 144)
  have h1 := one1_le a v
  have h2 := one1_le b v
  have h3 := one1_le c v
  have hc : cnt a b c v ≤ 3 := by unfold cnt; omega
  have hw1 : IntKind.i64.wrap (2 * (cnt a b c v : Int)) = 2 * (cnt a b c v : Int) := by simp [IntKind.wrap, IntKind.bits, IntKind.signed]; omega
  have HW : Hid (wonB a b c v = decide (3 < 2 * (cnt a b c v : Int))) := by unfold Hid wonB; rw [decide_eq_decide]; omega
  clear h1 h2 h3 hc
  go_enter Tryz.func99, Tryz.ntmps99
  go_wp2_with fail
  refine (count_any a b c v _).mono ?_
  rintro e w1 ⟨rfl, hb1⟩
  have hB := hA.trans (hb1.mono hA.size)
  clear hA hb1
  go_wp2
  go_ret
  exact ⟨by rw [HW.out]; rfl, hB⟩

theorem wpList_copy_g {t : TypeId} {ops : Array Oper} {rest : List Oper} {o : Oper} {a : Act} {w : World} {Q : Exit → Act → World → Prop} (hgd : o.guard = none) (d s : Operand)
    (ho : o.op = .call { callee := .builtin .copy, args := #[d, s], argTypes := #[t, t] }) (v u : Value) (hd : a.eval d = v) (hs : a.eval s = u) {v' : Value} {w' : World}
    (hr : (Builtin.copy_ #[t, t] o.type #[v, u]).run Tryz.prog w = .ok v' w') (h : wpList Tryz.prog ops Q rest (a.put o.dst v') w') : wpList Tryz.prog ops Q (o :: rest) a w := by
  refine wpList_plain hgd fun K hK => ?_
  unfold Oper.wp execOp
  simp only [ho, resolve, invoke, builtin, Sem.run_bind, Sem.run_pure, Result.andThen_ok, List.map_toArray, List.map_cons, List.map_nil, hd, hs, hr]
  exact hK _ _ h

/-- a list of strings in memory. -/
def HoldsT (w : World) (a : Option Addr) (l : List ByteArray) : Prop :=
  ∀ i, i < l.length → ∃ b off, a = some ⟨b, off, none⟩ ∧ b < w.heap.size ∧ ∀ j (hj : j < l.length), w.cell? ⟨b, off + j, none⟩ = some (.string l[j])
theorem HoldsT.below {w w' : World} {a : Option Addr} {l : List ByteArray} (h : HoldsT w a l) (hb : Below w.heap.size w w') : HoldsT w' a l := by
  intro i hi
  obtain ⟨b, off, e, hlt, hc⟩ := h i hi
  exact ⟨b, off, e, Nat.lt_of_lt_of_le hlt hb.size, fun j hj => (hb.cell (p := ⟨b, off + j, none⟩) hlt).trans (hc j hj)⟩

abbrev sYes : ByteArray := { data := #[121, 101, 115] }
abbrev sNil : ByteArray := { data := #[] }
def preB (v : ByteArray) : Bool := Lib.hasPrefix v.data.toList sYes.data.toList
def good (a b c v : ByteArray) : Bool := preB v && wonB a b c v
def talL (a b c : ByteArray) : List ByteArray → ByteArray × Bool
  | [] => (sNil, false)
  | v :: r => if good a b c v = true then (v, true) else talL a b c r
def tal3 (a b c : ByteArray) : ByteArray × Bool := talL a b c [a, b, c]
/-- what Tally tells. -/
def tallyT : List ByteArray → ByteArray × Bool
  | [a, b, c] => tal3 a b c
  | _ => (sNil, false)
theorem tallyT_not {l : List ByteArray} (h : l.length ≠ 3) : tallyT l = (sNil, false) := by
  match l, h with
  | [], _ => rfl
  | [_], _ => rfl
  | [_, _], _ => rfl
  | [_, _, _], h => exact absurd rfl h
  | _ :: _ :: _ :: _ :: _, _ => rfl

theorem ret_tal {t u : ByteArray × Bool} (h : t = u) : Ending.returned (Value.tuple #[.string t.1, .bool t.2]) = Ending.returned (.tuple #[.string u.1, .bool u.2]) := by rw [h]

set_option maxHeartbeats 1000000 in
theorem tally_no (al : Option Addr) (cc : Nat) (l : List ByteArray) (w : World) (hl : l.length ≠ 3) :
    Calls Tryz.prog 46 #[.slice al l.length cc] w fun e w' => e = .returned (.tuple #[.string (tallyT l).1, .bool (tallyT l).2]) ∧ Below w.heap.size w w' := by
  rw [tallyT_not hl]
  have z : ((l.length : Int) != 3) = true := by simp; omega
  go_enter Tryz.func46, Tryz.ntmps46
  go_wp2
  refine bodyPost_ret (v := .tuple #[.string sNil, .bool false]) (by simp [results, Tryz.results46, go_sem]) rfl ?_
  exact ⟨rfl, Below.refl _ _⟩

set_option maxHeartbeats 2000000 in
theorem tally_yes (al : Option Addr) (cc : Nat) (a b c : ByteArray) (w : World) (h : HoldsT w al [a, b, c]) :
    Calls Tryz.prog 46 #[.slice al 3 cc] w fun e w' => e = .returned (.tuple #[.string (tal3 a b c).1, .bool (tal3 a b c).2]) ∧ Below w.heap.size w w' := by
  obtain ⟨ab, off, rfl, hab, hc⟩ := h 0 (by simp)
  have e0 := hc 0 (by simp)
  have e1 := hc 1 (by simp)
  have e2 := hc 2 (by simp)
  simp only [List.getElem_cons_zero, List.getElem_cons_succ] at e0 e1 e2
  clear hc h
  have hA := below_alloc w (.cells #[.string sNil, .string sNil, .string sNil] 144)
  have hk := heap_alloc_new w (.cells #[.string sNil, .string sNil, .string sNil] 144)
  have d0 := (hA.cell (p := ⟨ab, off + 0, none⟩) hab).trans e0
  have d1 := (hA.cell (p := ⟨ab, off + 1, none⟩) hab).trans e1
  have d2 := (hA.cell (p := ⟨ab, off + 2, none⟩) hab).trans e2
  have hrow := run_copy_row (P := Tryz.prog) (w.alloc (.cells #[.string sNil, .string sNil, .string sNil] 144)) 93 93 3 9 w.heap.size 0 3 3 ⟨ab, off, none⟩ 3 cc #[.string sNil, .string sNil, .string sNil] 144 [.string a, .string b, .string c] Tryz.underlying93 (by kernel_rfl) hk rfl
    (fun j v hj => by
      have hadd : ∀ j, (⟨ab, off, none⟩ : Addr).add j = ⟨ab, off + j, none⟩ := fun j => by unfold Addr.add; split <;> simp_all
      rw [hadd]
      match j, hj with
      | 0, hj => simp at hj; rw [← hj]; exact d0
      | 1, hj => simp at hj; rw [← hj]; exact d1
      | 2, hj => simp at hj; rw [← hj]; exact d2
      | j + 3, hj => simp at hj) (by simp) (by intro v hv; simp only [List.mem_cons, List.not_mem_nil, or_false] at hv; rcases hv with rfl | rfl | rfl <;> rfl)
  have hB1 : Below w.heap.size w ((w.alloc (.cells #[.string sNil, .string sNil, .string sNil] 144)).setRow w.heap.size #[.string a, .string b, .string c]) := below_setRow hA (Nat.le_refl _) _
  have hk1 : ((w.alloc (.cells #[.string sNil, .string sNil, .string sNil] 144)).setRow w.heap.size #[.string a, .string b, .string c]).heap[w.heap.size]? = some (.cells #[.string a, .string b, .string c] 144) := by
    exact setRow_heap _ _ _ _ _ _ hk
  simp only [List.take_zero, List.nil_append, List.length_cons, List.length_nil, Nat.zero_add, List.drop_succ_cons, List.drop_zero, List.append_nil] at hrow
  have x0 : ((w.alloc (.cells #[.string sNil, .string sNil, .string sNil] 144)).setRow w.heap.size #[.string a, .string b, .string c]).cell? ⟨w.heap.size, 0, none⟩ = some (.string a) := by rw [cell_of_row _ _ _ _ _ _ hk1]; rfl
  have x1 : ((w.alloc (.cells #[.string sNil, .string sNil, .string sNil] 144)).setRow w.heap.size #[.string a, .string b, .string c]).cell? ⟨w.heap.size, 1, none⟩ = some (.string b) := by rw [cell_of_row _ _ _ _ _ _ hk1]; rfl
  have x2 : ((w.alloc (.cells #[.string sNil, .string sNil, .string sNil] 144)).setRow w.heap.size #[.string a, .string b, .string c]).cell? ⟨w.heap.size, 2, none⟩ = some (.string c) := by rw [cell_of_row _ _ _ _ _ _ hk1]; rfl
  clear d0 d1 d2 e0 e1 e2 hA hk hab
  go_enter Tryz.func46, Tryz.ntmps46
  go_wp2_with (at_builtin; refine wpList_copy_g (by rfl) (.tmp 10) (.tmp 11) (by rfl) _ _ (by rfl) (by rfl) hrow ?_)
  generalize (w.alloc (.cells #[.string sNil, .string sNil, .string sNil] 144)).setRow w.heap.size #[.string a, .string b, .string c] = W at *
  clear hrow
  have hW := heap_lt hk1
  go_loopw [14] (fun i wr => ∃ k : Nat, i = .int .i64 k ∧ k ≤ 3 ∧ Hid (tal3 a b c = talL a b c ([a, b, c].drop k)) ∧ Below W.heap.size W wr) (fun i _ => 3 - (intOf i).toNat)
  case atStart => exact ⟨0, rfl, by omega, rfl, Below.refl _ _⟩
  case round =>
    obtain ⟨k, rfl, hk, HT, hBr⟩ := hrel
    have hBw := hB1.trans (hBr.mono hB1.size)
    have y0 := (hBr.cell (p := ⟨w.heap.size, 0, none⟩) hW).trans x0
    have y1 := (hBr.cell (p := ⟨w.heap.size, 1, none⟩) hW).trans x1
    have y2 := (hBr.cell (p := ⟨w.heap.size, 2, none⟩) hW).trans x2
    clear x0 x1 x2 hk1
    have i0 := idx0 a b c wr
    have i1 := idx1 a b c wr
    have i2 := idx2 a b c wr
    match k, hk with
    | 0, _ =>
      cases hp : preB a with
      | true =>
        have hpl : Lib.hasPrefix a.data.toList [121, 101, 115] = true := hp
        go_wp2_with fail
        refine (Tryz.strings_HasPrefix a sYes _).mono ?_
        rintro e w1 ⟨rfl, rfl⟩
        go_wp2_with fail
        refine (won_any a b c a _).mono ?_
        rintro e w1 ⟨rfl, hb1⟩
        have hB2 := hBr.trans (hb1.mono hBr.size)
        have hBw2 := hBw.trans (hb1.mono hBw.size)
        clear hb1 hBr hBw y0 y1 y2
        cases hq : wonB a b c a with
        | true =>
          have HE : Hid (tal3 a b c = (a, true)) := by unfold Hid; rw [HT.out]; show (if good a b c a = true then (a, true) else _) = _; unfold good; rw [hp, hq]; rfl
          clear HT hp hq
          go_wp2
          refine bodyPost_ret (v := .tuple #[.string a, .bool true]) (by simp [results, Tryz.results46, go_sem]) rfl ?_
          exact ⟨by rw [HE.out], hBw2⟩
        | false =>
          have HE : Hid (tal3 a b c = talL a b c ([a, b, c].drop 1)) := by unfold Hid; rw [HT.out]; show (if good a b c a = true then (a, true) else _) = _; unfold good; rw [hp, hq]; rfl
          clear HT hp hq
          go_wp2
          go_roundw
          case rel => exact ⟨1, by go_num, by omega, HE, hB2⟩
          case measure => simp [intOf]
      | false =>
        have hpl : Lib.hasPrefix a.data.toList [121, 101, 115] = false := hp
        have HE : Hid (tal3 a b c = talL a b c ([a, b, c].drop 1)) := by unfold Hid; rw [HT.out]; show (if good a b c a = true then (a, true) else _) = _; unfold good; rw [hp]; rfl
        clear HT hp
        go_wp2_with fail
        refine (Tryz.strings_HasPrefix a sYes _).mono ?_
        rintro e w1 ⟨rfl, rfl⟩
        go_wp2
        go_roundw
        case rel => exact ⟨1, by go_num, by omega, HE, hBr⟩
        case measure => simp [intOf]
    | 1, _ =>
      cases hp : preB b with
      | true =>
        have hpl : Lib.hasPrefix b.data.toList [121, 101, 115] = true := hp
        go_wp2_with fail
        refine (Tryz.strings_HasPrefix b sYes _).mono ?_
        rintro e w1 ⟨rfl, rfl⟩
        go_wp2_with fail
        refine (won_any a b c b _).mono ?_
        rintro e w1 ⟨rfl, hb1⟩
        have hB2 := hBr.trans (hb1.mono hBr.size)
        have hBw2 := hBw.trans (hb1.mono hBw.size)
        clear hb1 hBr hBw y0 y1 y2
        cases hq : wonB a b c b with
        | true =>
          have HE : Hid (tal3 a b c = (b, true)) := by unfold Hid; rw [HT.out]; show (if good a b c b = true then (b, true) else _) = _; unfold good; rw [hp, hq]; rfl
          clear HT hp hq
          go_wp2
          refine bodyPost_ret (v := .tuple #[.string b, .bool true]) (by simp [results, Tryz.results46, go_sem]) rfl ?_
          exact ⟨by rw [HE.out], hBw2⟩
        | false =>
          have HE : Hid (tal3 a b c = talL a b c ([a, b, c].drop 2)) := by unfold Hid; rw [HT.out]; show (if good a b c b = true then (b, true) else _) = _; unfold good; rw [hp, hq]; rfl
          clear HT hp hq
          go_wp2
          go_roundw
          case rel => exact ⟨2, by go_num, by omega, HE, hB2⟩
          case measure => simp [intOf]
      | false =>
        have hpl : Lib.hasPrefix b.data.toList [121, 101, 115] = false := hp
        have HE : Hid (tal3 a b c = talL a b c ([a, b, c].drop 2)) := by unfold Hid; rw [HT.out]; show (if good a b c b = true then (b, true) else _) = _; unfold good; rw [hp]; rfl
        clear HT hp
        go_wp2_with fail
        refine (Tryz.strings_HasPrefix b sYes _).mono ?_
        rintro e w1 ⟨rfl, rfl⟩
        go_wp2
        go_roundw
        case rel => exact ⟨2, by go_num, by omega, HE, hBr⟩
        case measure => simp [intOf]
    | 2, _ =>
      cases hp : preB c with
      | true =>
        have hpl : Lib.hasPrefix c.data.toList [121, 101, 115] = true := hp
        go_wp2_with fail
        refine (Tryz.strings_HasPrefix c sYes _).mono ?_
        rintro e w1 ⟨rfl, rfl⟩
        go_wp2_with fail
        refine (won_any a b c c _).mono ?_
        rintro e w1 ⟨rfl, hb1⟩
        have hB2 := hBr.trans (hb1.mono hBr.size)
        have hBw2 := hBw.trans (hb1.mono hBw.size)
        clear hb1 hBr hBw y0 y1 y2
        cases hq : wonB a b c c with
        | true =>
          have HE : Hid (tal3 a b c = (c, true)) := by unfold Hid; rw [HT.out]; show (if good a b c c = true then (c, true) else _) = _; unfold good; rw [hp, hq]; rfl
          clear HT hp hq
          go_wp2
          refine bodyPost_ret (v := .tuple #[.string c, .bool true]) (by simp [results, Tryz.results46, go_sem]) rfl ?_
          exact ⟨by rw [HE.out], hBw2⟩
        | false =>
          have HE : Hid (tal3 a b c = talL a b c ([a, b, c].drop 3)) := by unfold Hid; rw [HT.out]; show (if good a b c c = true then (c, true) else _) = _; unfold good; rw [hp, hq]; rfl
          clear HT hp hq
          go_wp2
          go_roundw
          case rel => exact ⟨3, by go_num, by omega, HE, hB2⟩
          case measure => simp [intOf]
      | false =>
        have hpl : Lib.hasPrefix c.data.toList [121, 101, 115] = false := hp
        have HE : Hid (tal3 a b c = talL a b c ([a, b, c].drop 3)) := by unfold Hid; rw [HT.out]; show (if good a b c c = true then (c, true) else _) = _; unfold good; rw [hp]; rfl
        clear HT hp
        go_wp2_with fail
        refine (Tryz.strings_HasPrefix c sYes _).mono ?_
        rintro e w1 ⟨rfl, rfl⟩
        go_wp2
        go_roundw
        case rel => exact ⟨3, by go_num, by omega, HE, hBr⟩
        case measure => simp [intOf]
    | 3, _ =>
      have HE : Hid (tal3 a b c = (sNil, false)) := HT.out
      clear HT
      go_wp2
      refine bodyPost_ret (v := .tuple #[.string sNil, .bool false]) (by simp [results, Tryz.results46, go_sem]) rfl ?_
      exact ⟨by rw [HE.out], hBw⟩
end

section
open Go.RowKit
set_option maxRecDepth 100000

theorem Tryz.laysM171 : Go.Proofs.LaysM.n171 Tryz.prog Tryz.lays171_ren := { Tryz.lays171 with
  m17 := by kernel_rfl
  m18 := by kernel_rfl
  m19 := by kernel_rfl
  i0 := by kernel_rfl
  i2 := by kernel_rfl
  i3 := by kernel_rfl
  i4 := by kernel_rfl
  i5 := by kernel_rfl
  i9 := by kernel_rfl
  i20 := by kernel_rfl
  i37 := by kernel_rfl
  i46 := by kernel_rfl
  i51 := by kernel_rfl
  i53 := by kernel_rfl
  i171 := by kernel_rfl
  i173 := by kernel_rfl
  i212 := by kernel_rfl
  i232 := by kernel_rfl
  i233 := by kernel_rfl
 }
theorem Tryz.strconv_Itoa (n : Int) (h0 : -9223372036854775808 ≤ n) (h1 : n ≤ 9223372036854775807) (w : World) (htab : Lib.TabIs Tryz.prog w (((Tryz.prog.globals[1]?).map (·.name)).getD "") .u64 Lib.pow10Tab) :
    Calls Tryz.prog 94 #[.int .i64 n] w fun e w' => e = .returned (.string ⟨(Lib.itoa n).toArray⟩) ∧ ∃ k os, w' = Sort.grow (w.drewN k) os := Go.Proofs.Any.strconv_Itoa Tryz.laysM171 n h0 h1 w (Eq.mp (by kernel_rfl) htab)

/-- the table of tens, as it is laid. -/
abbrev Tab (w : World) : Prop := Lib.TabIs Tryz.prog w (((Tryz.prog.globals[1]?).map (·.name)).getD "") .u64 Lib.pow10Tab
theorem Tab.below {w w' : World} (h : Tab w) (hb : Below w.heap.size w w') : Tab w' := by
  unfold Tab Lib.TabIs World.var? at *
  rw [show Tryz.prog.globalNamed (((Tryz.prog.globals[1]?).map (·.name)).getD "") = some 1 by kernel_rfl] at h ⊢
  simp only [Option.bind_some] at h ⊢
  have hlt : 1 < w.heap.size := by
    rcases Nat.lt_or_ge 1 w.heap.size with c | c
    · exact c
    · rw [Array.getElem?_eq_none c] at h; cases h
  rw [hb.block 1 hlt]
  exact h
theorem below_grow (w : World) (k : Nat) (os : Array Obj) : Below w.heap.size w (Sort.grow (w.drewN k) os) :=
  ⟨rfl, rfl, rfl, by simp [Sort.grow], fun i hi => by
    show ((w.drewN k).heap ++ os)[i]? = _
    rw [Array.getElem?_append_left (by show i < w.heap.size; omega)]
    rfl⟩

abbrev sNoB : ByteArray := { data := #[110, 111, 32] }
abbrev sYesB : ByteArray := { data := #[121, 101, 115, 32] }
abbrev sBl : ByteArray := { data := #[32] }
def itoaS (n : Int) : ByteArray := ⟨(Lib.itoa n).toArray⟩
/-- the errors of Of. -/
def voteE (g : Int) (m : List Ob) (us : List Up) : Int := if pushE m us ≠ 0 then pushE m us else if g < 0 ∨ 999 < g then 3 else 0
theorem voteE_iff {g : Int} {m : List Ob} {us : List Up} : voteE g m us = 0 ↔ pushE m us = 0 ∧ 0 ≤ g ∧ g ≤ 999 := by
  unfold voteE
  split
  · rename_i h; exact ⟨fun e => absurd e h, fun e => absurd e.1 h⟩
  · rename_i h
    have h0 : pushE m us = 0 := Classical.byContradiction h
    split
    · constructor
      · intro e; cases e
      · intro e; omega
    · exact ⟨fun _ => ⟨h0, by omega, by omega⟩, fun _ => rfl⟩
/-- what Of says. -/
def voteT (s : List Ob) (l : List Rf) (g : Int) (m : List Ob) (us : List Up) (f : Bool) : ByteArray :=
  if tryE s l m us f ≠ 0 then sNoB ++ itoaS (tryE s l m us f) else sYesB ++ itoaS g ++ sBl ++ textS us
def voteS (s : List Ob) (l : List Rf) (g : Int) (m : List Ob) (us : List Up) (f : Bool) : ByteArray := if voteE g m us ≠ 0 then sNil else voteT s l g m us f
theorem size_app (a b : ByteArray) : (a ++ b).size = a.size + b.size := by simp [ByteArray.size_append]
theorem itoa_size : ∀ n : Nat, n ≤ 999 → (itoaS (n : Int)).size ≤ 3 := by decide +kernel
theorem textS_size (us : List Up) : (textS us).size ≤ 404 := by
  unfold textS
  split
  · rename_i h
    obtain ⟨_, h2, h3, _⟩ := checkU_iff.1 h
    have hp := sortU_perm us
    have := textFrom_size (sortU us) ⟨#[]⟩ (fun u hu => h3 u (hp.mem_iff.1 hu))
    have hl := hp.length_eq
    unfold textOf
    have : (⟨#[]⟩ : ByteArray).size = 0 := rfl
    omega
  · show (0 : Nat) ≤ 404; omega

set_option maxHeartbeats 2000000 in
theorem of_any (aS : Option Addr) (cs : Nat) (s : List Ob) (al : Option Addr) (cl : Nat) (l : List Rf) (g ph : Int) (a1 : Option Addr) (n1 c1 : Nat) (a2 : Option Addr) (n2 c2 : Nat) (f0 : Bool) (am : Option Addr) (cm : Nat) (m : List Ob) (au : Option Addr) (cu : Nat) (us : List Up) (f : Bool) (w : World) (hg : Glob w) (ht : Tab w)
    (hs : HoldsS w aS s) (hsl : s.length ≤ 9223372036854775807) (hl : HoldsR w al l) (hll : l.length ≤ 9223372036854775807) (hm : HoldsS w am m) (hml : m.length ≤ 9223372036854775807) (hu : HoldsU w au us) (hul : us.length ≤ 9223372036854775807) :
    Calls Tryz.prog 162 #[replV aS s.length cs al l.length cl g ph a1 n1 c1 a2 n2 c2 f0, pushV am m.length cm au us.length cu f] w fun e w' => e = .returned (.tuple #[.string (voteS s l g m us f), .int .i64 (voteE g m us)]) ∧ Below w.heap.size w w' := by
  have HE : Hid (voteE g m us = if pushE m us ≠ 0 then pushE m us else if g < 0 ∨ 999 < g then 3 else 0) := rfl
  have hB := below_alloc2 w (.cells #[.slice aS s.length cs, .slice al l.length cl, .int .i64 g, .int .i64 ph, .slice a1 n1 c1, .slice a2 n2 c2, .bool f0] 36) (.cells #[.slice am m.length cm, .slice au us.length cu, .bool f] 28)
  have hA2 := below_alloc (w.alloc (.cells #[.slice aS s.length cs, .slice al l.length cl, .int .i64 g, .int .i64 ph, .slice a1 n1 c1, .slice a2 n2 c2, .bool f0] 36)) (.cells #[.slice am m.length cm, .slice au us.length cu, .bool f] 28)
  have hk2 : ((w.alloc (.cells #[.slice aS s.length cs, .slice al l.length cl, .int .i64 g, .int .i64 ph, .slice a1 n1 c1, .slice a2 n2 c2, .bool f0] 36)).alloc (.cells #[.slice am m.length cm, .slice au us.length cu, .bool f] 28)).heap[w.heap.size + 1]? = some (.cells #[.slice am m.length cm, .slice au us.length cu, .bool f] 28) := by
    have := heap_alloc_new (w.alloc (.cells #[.slice aS s.length cs, .slice al l.length cl, .int .i64 g, .int .i64 ph, .slice a1 n1 c1, .slice a2 n2 c2, .bool f0] 36)) (.cells #[.slice am m.length cm, .slice au us.length cu, .bool f] 28)
    rwa [show (w.alloc (.cells #[.slice aS s.length cs, .slice al l.length cl, .int .i64 g, .int .i64 ph, .slice a1 n1 c1, .slice a2 n2 c2, .bool f0] 36)).heap.size = w.heap.size + 1 by simp] at this
  have hk1 : ((w.alloc (.cells #[.slice aS s.length cs, .slice al l.length cl, .int .i64 g, .int .i64 ph, .slice a1 n1 c1, .slice a2 n2 c2, .bool f0] 36)).alloc (.cells #[.slice am m.length cm, .slice au us.length cu, .bool f] 28)).heap[w.heap.size]? = some (.cells #[.slice aS s.length cs, .slice al l.length cl, .int .i64 g, .int .i64 ph, .slice a1 n1 c1, .slice a2 n2 c2, .bool f0] 36) := (hA2.block _ (by simp)).trans (heap_alloc_new w _)
  obtain ⟨y0, y1, y2⟩ := c3_of hk2
  have hpc := pcheck_any am cm m au cu us f _ (hg.below hB) (hm.below hB) hml (hu.below hB) hul
  clear hA2
  go_enter Tryz.func162, Tryz.ntmps162
  go_wp2_with fail
  refine hpc.mono ?_
  clear hpc
  rintro e w1 ⟨rfl, hb1⟩
  have hB1 := hB.trans (hb1.mono hB.size)
  have hk21 := (hb1.block _ (heap_lt hk2)).trans hk2
  have hk11 := (hb1.block _ (heap_lt hk1)).trans hk1
  clear hb1 hB hk2 hk1 y0 y1 y2
  by_cases k1 : pushE m us = 0
  case neg =>
    have HR : Hid (voteE g m us = pushE m us ∧ voteS s l g m us f = sNil) := by
      have e : voteE g m us = pushE m us := by rw [HE.out, if_pos k1]
      refine ⟨e, ?_⟩
      unfold voteS
      rw [if_pos (by rw [e]; exact k1)]
    have z1 : (pushE m us != 0) = true := by simpa using k1
    clear k1 hk21 hk11
    go_wp2
    refine bodyPost_ret (v := .tuple #[.string sNil, .int .i64 (pushE m us)]) (by simp [results, Tryz.results162, go_sem]) rfl ?_
    exact ⟨by rw [HR.out.1, HR.out.2], hB1⟩
  have HP : Hid (pushE m us = 0) := k1
  have HE1 : Hid (voteE g m us = if g < 0 ∨ 999 < g then 3 else 0) := by unfold Hid; rw [HE.out, if_neg (fun e => e k1)]
  rw [k1]
  clear k1 HE
  have r2 : w1.cell? ⟨w.heap.size, 2, none⟩ = some (.int .i64 g) := by rw [cell_of_row w1 _ _ _ _ _ hk11]; rfl
  by_cases kg : g < 0 ∨ 999 < g
  case pos =>
    have HR : Hid (voteE g m us = 3 ∧ voteS s l g m us f = sNil) := by
      have e : voteE g m us = 3 := by rw [HE1.out, if_pos kg]
      refine ⟨e, ?_⟩
      unfold voteS
      rw [if_pos (by rw [e]; decide)]
    by_cases kn : g < 0
    · clear kg hk21 hk11
      go_wp2
      refine bodyPost_ret (v := .tuple #[.string sNil, .int .i64 3]) (by simp [results, Tryz.results162, go_sem]) rfl ?_
      exact ⟨by rw [HR.out.1, HR.out.2], hB1⟩
    · have kp : 999 < g := by omega
      clear kg hk21 hk11
      go_wp2
      refine bodyPost_ret (v := .tuple #[.string sNil, .int .i64 3]) (by simp [results, Tryz.results162, go_sem]) rfl ?_
      exact ⟨by rw [HR.out.1, HR.out.2], hB1⟩
  have kn : ¬ g < 0 := by omega
  have kp : ¬ 999 < g := by omega
  have HV : Hid (voteE g m us = 0) := by unfold Hid; rw [HE1.out, if_neg kg]
  have HS : Hid (voteS s l g m us f = voteT s l g m us f) := by unfold Hid voteS; rw [if_neg (fun e => e HV.out)]
  clear kg HE1
  obtain ⟨y0, y1, y2⟩ := c3_of hk21
  obtain ⟨r0, r1, r2', r3, r4, r5, r6⟩ := c7_of hk11
  clear r2'
  have htr := try_any aS cs s al cl l g ph a1 n1 c1 a2 n2 c2 f0 am cm m au cu us f w1 (hg.below hB1) (hs.below hB1) hsl (hl.below hB1) hll (hm.below hB1) hml (hu.below hB1) hul
  go_wp2_with fail
  refine htr.mono ?_
  clear htr
  rintro e w2 ⟨hb2, hpost⟩
  have hB2 := hB1.trans (hb2.mono hB1.size)
  have hk22 := (hb2.block _ (heap_lt hk21)).trans hk21
  have hk12 := (hb2.block _ (heap_lt hk11)).trans hk11
  clear hb2 hB1 hk21 hk11 r0 r1 r2 r3 r4 r5 r6 y0 y1 y2
  rcases hpost with ⟨hne, rfl⟩ | ⟨hz, a3, c3, a4, c4, rfl, -, -, -⟩
  · have HT : Hid (voteT s l g m us f = sNoB ++ itoaS (tryE s l m us f)) := by unfold Hid voteT; rw [if_pos hne]
    have hr := r7_try s l m us f
    have hit := Tryz.strconv_Itoa (tryE s l m us f) (by have := hr.1; omega) (by have := hr.2; omega) w2 (ht.below hB2)
    have hsz : (itoaS (tryE s l m us f)).size ≤ 3 := by
      have := itoa_size (tryE s l m us f).toNat (by have := hr.1; have := hr.2; omega)
      rwa [Int.toNat_of_nonneg hr.1] at this
    have z1 : (tryE s l m us f != 0) = true := by simpa using hne
    clear hne hk22 hk12 hr
    go_wp2_with fail
    refine hit.mono ?_
    clear hit
    rintro e w3 ⟨rfl, k, os, rfl⟩
    have hB3 := hB2.trans ((below_grow w2 k os).mono hB2.size)
    generalize Sort.grow (w2.drewN k) os = W3 at *
    have HI : Hid (itoaS (tryE s l m us f) = (⟨(Lib.itoa (tryE s l m us f)).toArray⟩ : ByteArray)) := rfl
    rw [HI.out] at hsz
    generalize (⟨(Lib.itoa (tryE s l m us f)).toArray⟩ : ByteArray) = J at *
    have hsum : (3 : Int) + (J.size : Int) ≤ 9223372036854775807 := by omega
    go_wp2
    refine bodyPost_ret (v := .tuple #[.string (sNoB ++ J), .int .i64 0]) (by simp [results, Tryz.results162, go_sem]) rfl ?_
    exact ⟨by rw [HV.out, HS.out, HT.out, HI.out], hB3⟩
  · have HT : Hid (voteT s l g m us f = sYesB ++ itoaS g ++ sBl ++ textS us) := by unfold Hid voteT; rw [if_neg (fun q => q hz)]
    have HU : Hid (checkU us = 0) := (pushE_iff.1 HP.out).2.2
    obtain ⟨y0, y1, y2⟩ := c3_of hk22
    have htx := text_any au cu us w2 (hg.below hB2) (hu.below hB2) hul
    clear hz
    go_wp2_with fail
    refine htx.mono ?_
    clear htx
    rintro e w3 ⟨rfl, hb3⟩
    rw [HU.out]
    have hB3 := hB2.trans (hb3.mono hB2.size)
    have hk13 := (hb3.block _ (heap_lt hk12)).trans hk12
    have r2 : w3.cell? ⟨w.heap.size, 2, none⟩ = some (.int .i64 g) := by rw [cell_of_row w3 _ _ _ _ _ hk13]; rfl
    have hit := Tryz.strconv_Itoa g (by omega) (by omega) w3 (ht.below hB3)
    have hsz : (itoaS g).size ≤ 3 := by
      have := itoa_size g.toNat (by omega)
      rwa [Int.toNat_of_nonneg (by omega)] at this
    have hsu := textS_size us
    clear hb3 hB2 hk22 hk12 hk13 y0 y1 y2 kn kp
    go_wp2_with fail
    refine hit.mono ?_
    clear hit
    rintro e w4 ⟨rfl, k, os, rfl⟩
    have hB4 := hB3.trans ((below_grow w3 k os).mono hB3.size)
    generalize Sort.grow (w3.drewN k) os = W4 at *
    clear hB3 r2
    have HI : Hid (itoaS g = (⟨(Lib.itoa g).toArray⟩ : ByteArray)) := rfl
    rw [HI.out] at hsz
    generalize (⟨(Lib.itoa g).toArray⟩ : ByteArray) = J at *
    generalize textS us = T at *
    have hsum : (4 : Int) + (J.size : Int) ≤ 9223372036854775807 := by omega
    have hsum2 : ((sYesB ++ J).size : Int) + 1 ≤ 9223372036854775807 := by rw [size_app]; have : sYesB.size = 4 := rfl; omega
    have hsum3 : ((sYesB ++ J ++ sBl).size : Int) + (T.size : Int) ≤ 9223372036854775807 := by rw [size_app, size_app]; have : sYesB.size = 4 := rfl; have : sBl.size = 1 := rfl; omega
    go_wp2
    refine bodyPost_ret (v := .tuple #[.string (sYesB ++ J ++ sBl ++ T), .int .i64 0]) (by simp [results, Tryz.results162, go_sem]) rfl ?_
    exact ⟨by rw [HV.out, HS.out, HT.out, HI.out], hB4⟩
end

section
open Go.RowKit
set_option maxRecDepth 100000

theorem holdsT_new3 (w : World) (a b c : ByteArray) : HoldsT (w.alloc (.cells #[.string a, .string b, .string c] 9)) (some ⟨w.heap.size, 0, none⟩) [a, b, c] := by
  have hk := heap_alloc_new w (.cells #[.string a, .string b, .string c] 9)
  intro i _
  refine ⟨_, _, rfl, heap_lt hk, fun j hj => ?_⟩
  rw [cell_of_row _ _ _ _ _ _ hk]
  match j, hj with
  | 0, _ => rfl
  | 1, _ => rfl
  | 2, _ => rfl
  | j + 3, hj => exact absurd hj (by simp)

abbrev sA : ByteArray := { data := #[121, 101, 115, 32, 55, 32, 109, 97, 105, 110, 32, 51, 32, 54, 59] }
abbrev sB : ByteArray := { data := #[110, 111, 32, 53] }
theorem beg_v1 : voteE 7 comeL comeU = 0 := by decide +kernel
theorem beg_v2 : voteS shelfL namesL 7 comeL comeU false = sA := by decide +kernel
theorem beg_v3 : voteE 0 comeL comeU = 0 := by decide +kernel
theorem beg_v4 : voteS [] [] 0 comeL comeU false = sB := by decide +kernel
theorem beg_t1 : tal3 sA sNil sA = (sA, true) := by decide +kernel
theorem beg_t2 : tal3 sA sB sNil = (sNil, false) := by decide +kernel
end
end Go.Proofs.YtehmlpkapjdhkaaGreatDoor
