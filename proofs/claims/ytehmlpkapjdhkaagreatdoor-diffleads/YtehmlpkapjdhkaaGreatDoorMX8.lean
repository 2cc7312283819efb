import Derived.Test.YtehmlpkapjdhkaaGreatDoorMU
import Derived.RegionTactic
import Derived.Test.YtehmlpkapjdhkaaGreatDoorMK1
import Derived.Lib.AppendZeros
import Derived.Lib.SlicesCompact
import Derived.Sort.Walk0
import Derived.Test.YtehmlpkapjdhkaaGreatDoorSh2
import Derived.Test.YtehmlpkapjdhkaaGreatDoorMG
import Derived.Lib.RowBridge
namespace Go.Proofs.YtehmlpkapjdhkaaGreatDoor
section
open Go.RowKit
set_option maxRecDepth 100000

/-! Updates that lead from one list of refs to another one. -/
def sortB : List Rf → Bool
  | [] => true
  | x :: r => r.all (fun y => Op.bytesLess x.name.toList y.name.toList) && sortB r
theorem sortB_iff : ∀ {l : List Rf}, sortB l = true ↔ SortR l
  | [] => by simp [sortB, SortR]
  | x :: r => by
    rw [sortB, Bool.and_eq_true, sortB_iff, List.all_eq_true]
    unfold SortR
    rw [List.pairwise_cons]
    exact Iff.rfl
theorem sort_adj {l : List Rf} (h : ∀ j (hj : j + 1 < l.length), ltN l[j].name l[j + 1].name) : SortR l := by
  refine List.pairwise_iff_getElem.2 ?_
  have key : ∀ d i (hi : i + d + 1 < l.length), ltN l[i].name l[i + d + 1].name := by
    intro d
    induction d with
    | zero => intro i hi; exact h i hi
    | succ d ih =>
      intro i hi
      exact (ih i (by omega)).trans (h (i + d + 1) (by omega))
  intro i j hi hj hij
  have := key (j - i - 1) i (by omega)
  have e : i + (j - i - 1) + 1 = j := by omega
  simpa only [e] using this
theorem sort_bad {l : List Rf} {j : Nat} (hj : j + 1 < l.length) (h : ¬ ltN l[j].name l[j + 1].name) : sortB l = false := by
  cases hb : sortB l with
  | false => rfl
  | true => exact absurd (List.pairwise_iff_getElem.1 (sortB_iff.1 hb) j (j + 1) (by omega) hj (by omega)) h
def namesE : List Rf → Int
  | [] => 0
  | r :: t => if nameE r.name ≠ 0 then nameE r.name else namesE t
theorem namesE_zero : ∀ {l : List Rf}, namesE l = 0 ↔ ∀ r ∈ l, nameE r.name = 0
  | [] => by simp [namesE]
  | r :: t => by
    unfold namesE
    by_cases h : nameE r.name = 0
    · rw [if_neg (fun e => e h), namesE_zero]; simp [h]
    · rw [if_pos h]; simp [h]
theorem namesE_drop {l : List Rf} {k : Nat} (hk : k < l.length) : namesE (l.drop k) = if nameE l[k].name ≠ 0 then nameE l[k].name else namesE (l.drop (k + 1)) := by
  rw [List.drop_eq_getElem_cons hk, namesE]
/-- what check of lists of refs answers. -/
def checkL (l m : List Rf) : Int := if 8 < l.length then 2 else if 8 < m.length then 2 else if namesE (l ++ m) ≠ 0 then namesE (l ++ m) else if sortB l = false then 4 else if sortB m = false then 4 else 0
theorem checkL_zero {l m : List Rf} : checkL l m = 0 ↔ l.length ≤ 8 ∧ m.length ≤ 8 ∧ (∀ r ∈ l ++ m, nameE r.name = 0) ∧ SortR l ∧ SortR m := by
  unfold checkL
  by_cases h1 : 8 < l.length
  · rw [if_pos h1]; constructor
    · intro h; cases h
    · intro h; omega
  rw [if_neg h1]
  by_cases h2 : 8 < m.length
  · rw [if_pos h2]; constructor
    · intro h; cases h
    · intro h; omega
  rw [if_neg h2]
  by_cases h3 : namesE (l ++ m) = 0
  · rw [if_neg (fun e => e h3)]
    by_cases h4 : sortB l = false
    · rw [if_pos h4]; constructor
      · intro h; cases h
      · intro h; rw [sortB_iff.2 h.2.2.2.1] at h4; cases h4
    rw [if_neg h4]
    by_cases h5 : sortB m = false
    · rw [if_pos h5]; constructor
      · intro h; cases h
      · intro h; rw [sortB_iff.2 h.2.2.2.2] at h5; cases h5
    rw [if_neg h5]
    simp only [Bool.not_eq_false] at h4 h5
    exact ⟨fun _ => ⟨by omega, by omega, namesE_zero.1 h3, sortB_iff.1 h4, sortB_iff.1 h5⟩, fun _ => rfl⟩
  · rw [if_pos h3]
    exact ⟨fun h => absurd h h3, fun h => absurd (namesE_zero.2 h.2.2.1) h3⟩
/-- the names of two lists, in their order, each once. -/
def NamesOf (l m : List Rf) (ns : List ByteArray) : Prop := ns.Pairwise ltN ∧ ∀ n, n ∈ ns ↔ ∃ r ∈ l ++ m, r.name = n
def leadU (l m : List Rf) (n : ByteArray) : Option Up := if getE m n ≠ getE l n ∨ getI m n ≠ getI l n then some ⟨n, getI m n, getI l n⟩ else none
def leadL (l m : List Rf) (ns : List ByteArray) : List Up := ns.filterMap (leadU l m)
theorem lead_self (l : List Rf) (ns : List ByteArray) : leadL l l ns = [] := by
  unfold leadL
  rw [List.filterMap_eq_nil_iff]
  intro n _
  simp [leadU]
theorem lead_length (l m : List Rf) (ns : List ByteArray) : (leadL l m ns).length ≤ ns.length := List.length_filterMap_le _ _
theorem lead_take {l m : List Rf} {ns : List ByteArray} {k : Nat} (hk : k < ns.length) : leadL l m (ns.take (k + 1)) = leadL l m (ns.take k) ++ (leadU l m ns[k]).toList := by
  unfold leadL
  rw [List.take_succ_eq_append_getElem hk, List.filterMap_append]
  cases h : leadU l m ns[k] <;> simp [h]
theorem lead_mem {l m : List Rf} {ns : List ByteArray} {u : Up} : u ∈ leadL l m ns ↔ u.name ∈ ns ∧ (getE m u.name ≠ getE l u.name ∨ getI m u.name ≠ getI l u.name) ∧ u = ⟨u.name, getI m u.name, getI l u.name⟩ := by
  unfold leadL
  rw [List.mem_filterMap]
  constructor
  · rintro ⟨n, hn, h⟩
    unfold leadU at h
    split at h
    · rename_i c
      cases h
      exact ⟨hn, c, rfl⟩
    · cases h
  · rintro ⟨h1, h2, h3⟩
    refine ⟨u.name, h1, ?_⟩
    unfold leadU
    rw [if_pos h2]
    exact congrArg some h3.symm
theorem getE_there {l : List Rf} {n : ByteArray} (hn : nameE n = 0) : getE l n = 0 ↔ ∃ r ∈ l, r.name = n := by
  unfold getE
  rw [if_neg (fun e => e hn)]
  rcases indexR_cases (sameN n) l with ⟨c, hno⟩ | ⟨i, c, hi, hp, _⟩
  · rw [c, if_pos (by omega)]
    constructor
    · intro h; cases h
    · rintro ⟨r, hr, e⟩
      have := hno r hr
      rw [sameN_iff.2 e] at this; cases this
  · rw [c, if_neg (by omega)]
    exact ⟨fun _ => ⟨l[i], List.getElem_mem hi, sameN_iff.1 hp⟩, fun _ => rfl⟩
section
variable {l m : List Rf} {ns : List ByteArray}
theorem names_right (hc : checkL l m = 0) (hN : NamesOf l m ns) {n : ByteArray} (h : n ∈ ns) : nameE n = 0 := by
  obtain ⟨r, hr, rfl⟩ := (hN.2 n).1 h
  exact (checkL_zero.1 hc).2.2.1 r hr
theorem lead_nil (hc : checkL l m = 0) (hN : NamesOf l m ns) : leadL l m ns = [] ↔ l = m := by
  constructor
  · intro h
    obtain ⟨_, _, hn, s1, s2⟩ := checkL_zero.1 hc
    have key : ∀ n ∈ ns, getE m n = getE l n ∧ getI m n = getI l n := by
      intro n hns
      unfold leadL at h
      rw [List.filterMap_eq_nil_iff] at h
      have := h n hns
      unfold leadU at this
      split at this
      · cases this
      · rename_i c; omega
    refine s1.ext s2 fun r => ?_
    constructor
    · intro hr
      have hz := hn r (List.mem_append_left _ hr)
      obtain ⟨k1, k2⟩ := key r.name ((hN.2 _).2 ⟨r, List.mem_append_left _ hr, rfl⟩)
      obtain ⟨r', hr', e⟩ := (getE_there hz).1 (k1.trans ((getE_there hz).2 ⟨r, hr, rfl⟩))
      rw [getI_look hz, getI_look hz, look_mem s1 hr, ← e, look_mem s2 hr'] at k2
      have : r = r' := by cases r; cases r'; simp only at e k2; rw [e, k2]
      rw [this]; exact hr'
    · intro hr
      have hz := hn r (List.mem_append_right _ hr)
      obtain ⟨k1, k2⟩ := key r.name ((hN.2 _).2 ⟨r, List.mem_append_right _ hr, rfl⟩)
      obtain ⟨r', hr', e⟩ := (getE_there hz).1 (k1.symm.trans ((getE_there hz).2 ⟨r, hr, rfl⟩))
      rw [getI_look hz, getI_look hz, look_mem s2 hr, ← e, look_mem s1 hr'] at k2
      have : r = r' := by cases r; cases r'; simp only at e k2; rw [e, k2]
      rw [this]; exact hr'
  · rintro rfl
    exact lead_self _ _
theorem lead_apart (hN : NamesOf l m ns) : Apart (leadL l m ns) := by
  unfold leadL Apart
  rw [List.pairwise_filterMap]
  refine hN.1.imp ?_
  intro a b hab x hx y hy
  unfold leadU at hx hy
  split at hx
  · split at hy
    · cases hx; cases hy; exact hab.neq
    · cases hy
  · cases hx
theorem look_id {o : List Ob} (h : refsE l o = 0) (nm : ByteArray) : lookI l nm = 0 ∨ IsC o (lookI l nm) := by
  by_cases hz : lookI l nm = 0
  · exact .inl hz
  · obtain ⟨r, hr, _, e⟩ := look_inv hz
    rw [← e]; exact .inr (refs_isC h hr)
theorem isC_le {o : List Ob} (h : checkS o = 0) {i : Int} (hi : IsC o i) : 1 ≤ i ∧ i ≤ 99 := by
  obtain ⟨⟨x, hx, rfl⟩, _⟩ := hi
  exact right_id h x hx
/-- UPDATES LEAD FROM ONE LIST TO THE OTHER ONE. -/
theorem lead_apply {o : List Ob} (hc : checkL l m = 0) (hN : NamesOf l m ns) (h1 : refsE l o = 0) (h2 : refsE m o = 0) (hne : leadL l m ns ≠ []) (h4 : (leadL l m ns).length ≤ 4) :
    applyE m o (leadL l m ns) true = 0 ∧ runL m (leadL l m ns) = l := by
  have s1 := refs_sort h1
  have s2 := refs_sort h2
  have hk := (refsE_iff.1 h1).1
  have hap := lead_apart hN
  have hnm : ∀ u ∈ leadL l m ns, nameE u.name = 0 := fun u hu => names_right hc hN (lead_mem.1 hu).1
  have hol : ∀ u ∈ leadL l m ns, u.old = lookI m u.name ∧ u.new = lookI l u.name := fun u hu => by
    have hz := hnm u hu
    obtain ⟨_, _, e⟩ := lead_mem.1 hu
    rw [getI_look hz, getI_look hz] at e
    exact ⟨congrArg Up.old e, congrArg Up.new e⟩
  have hl : runL m (leadL l m ns) = l := by
    refine look_ext (runL_sort _ s2) s1 (runL_ids _ (refs_ids h2)) (refs_ids h1) fun nm => ?_
    rw [runL_look _ hap s2]
    by_cases hx : ∃ u ∈ leadL l m ns, u.name = nm
    · obtain ⟨u, hu, rfl⟩ := hx
      rw [newOf_mem hap hu]
      exact (hol u hu).2
    · rw [newOf_none (fun u hu e => hx ⟨u, hu, e⟩)]
      show lookI m nm = lookI l nm
      by_cases hin : nm ∈ ns
      · have hz := names_right hc hN hin
        rw [← getI_look hz, ← getI_look hz]
        refine Classical.byContradiction fun hne => hx ⟨⟨nm, getI m nm, getI l nm⟩, lead_mem.2 ⟨hin, .inr hne, rfl⟩, rfl⟩
      · rw [look_none (fun r hr e => hin ((hN.2 nm).2 ⟨r, List.mem_append_right _ hr, e⟩)), look_none (fun r hr e => hin ((hN.2 nm).2 ⟨r, List.mem_append_left _ hr, e⟩))]
  refine ⟨applyE_iff.2 ⟨h2, checkU_iff.2 ⟨by have := List.length_pos_iff.2 hne; omega, h4, fun u hu => ?_, hap⟩, (runE_iff _ hnm hap s2).2 fun u hu => ?_, by rw [hl]; exact h1⟩, hl⟩
  · have hz := hnm u hu
    obtain ⟨e1, e2⟩ := hol u hu
    have b1 : 0 ≤ u.old ∧ u.old ≤ 99 := by
      rw [e1]
      rcases look_id h2 u.name with q | q
      · rw [q]; omega
      · have := isC_le hk q; omega
    have b2 : 0 ≤ u.new ∧ u.new ≤ 99 := by
      rw [e2]
      rcases look_id h1 u.name with q | q
      · rw [q]; omega
      · have := isC_le hk q; omega
    refine ⟨hz, b1.1, b1.2, b2.1, b2.2, ?_⟩
    rintro ⟨z1, z2⟩
    obtain ⟨hin, _, _⟩ := lead_mem.1 hu
    obtain ⟨r, hr, e⟩ := (hN.2 _).1 hin
    rcases List.mem_append.1 hr with hr | hr
    · rw [e2, ← e, look_mem s1 hr] at z2
      exact refs_ids h1 r hr z2
    · rw [e1, ← e, look_mem s2 hr] at z1
      exact refs_ids h2 r hr z1
  · obtain ⟨e1, e2⟩ := hol u hu
    refine ⟨e1.symm, fun hz => mayE_force (behindE_iff.2 ⟨hk, ?_, ?_⟩)⟩
    · split
      · rcases look_id h1 u.name with q | q
        · exact absurd (e2.trans q) hz
        · rw [e2]; exact q
      · rename_i c
        rcases look_id h2 u.name with q | q
        · exact absurd (e1.trans q) c
        · rw [e1]; exact q
    · rcases look_id h1 u.name with q | q
      · exact absurd (e2.trans q) hz
      · rw [e2]; exact q
end
end

section
open Go.RowKit
attribute [local go_sem] Oper.semAt_some
set_option maxRecDepth 100000

set_option maxHeartbeats 2000000 in
theorem rises_any (a : Option Addr) (c : Nat) (l : List Rf) (w : World) (h : HoldsR w a l) (hl : l.length ≤ 1000) :
    Calls Tryz.prog 106 #[.slice a l.length c] w fun e w' => e = .returned (.bool (sortB l)) ∧ Below w.heap.size w w' := by
  go_enter Tryz.func106, Tryz.ntmps106
  go_wp2_with fail
  go_loopw [3] (fun i wr => ∃ j : Nat, i = .int .i64 ((j : Int) + 1) ∧ j ≤ 1000 ∧ Hid (∀ q (hq : q + 1 < l.length), q < j → ltN l[q].name l[q+1].name) ∧ Below w.heap.size w wr) (fun i _ => l.length - (intOf i).toNat)
  case atStart => exact ⟨0, rfl, by omega, fun j hj q => absurd q (Nat.not_lt_zero _), Below.refl _ _⟩
  case round =>
    obtain ⟨j, rfl, hj9, HI, hB⟩ := hrel
    by_cases hlt : j + 1 < l.length
    · obtain ⟨b, off, rfl, hb, hc⟩ := (h.below hB) (j + 1) hlt
      obtain ⟨x0, _⟩ := hc (j + 1) hlt
      obtain ⟨y0, _⟩ := hc j (by omega)
      have hlt' : (j : Int) + 1 < (l.length : Int) := by omega
      have hw1 : IntKind.i64.wrap ((j : Int) + 1 - 1) = (j : Int) := by rw [IntKind.wrap_i64]; omega
      have ht1 : ((j : Int) + 1).toNat = j + 1 := by omega
      have HX : Hid (∀ c, leB l[j + 1].name l[j].name = c → (c = true → sortB l = false) ∧ (c = false → ∀ q (hq : q + 1 < l.length), q < j + 1 → ltN l[q].name l[q+1].name)) := by
        rintro c rfl
        refine ⟨fun q => sort_bad hlt fun e => ?_, fun q k hk hkj => ?_⟩
        · rw [leB_iff.2 e] at q; cases q
        · by_cases e : k = j
          · subst e; exact leB_iff.1 q
          · exact HI.out k hk (by omega)
      have hHB := hB.drew
      have x0' : wr.drew.cell? ⟨b, off + (j + 1) * 2, none⟩ = some (.string l[j + 1].name) := x0
      have y0' : wr.drew.cell? ⟨b, off + j * 2, none⟩ = some (.string l[j].name) := y0
      generalize l[j + 1].name = n1 at *
      generalize l[j].name = n0 at *
      clear hc HI hB
      go_wp2_with fail
      go_region
      generalize wr.drew = wd at *
      clear x0 y0 x0' y0'
      obtain ⟨q, hq⟩ : ∃ q, (Op.bytesLess n1.toList n0.toList || n1.toList == n0.toList) = q := ⟨_, rfl⟩
      rw [hq]
      cases q with
      | true =>
        have HR : Hid (false = sortB l) := ((HX.out _ hq).1 rfl).symm
        clear hq HX
        go_wp2
        go_ret
        exact ⟨ret_bool HR.out, hHB⟩
      | false =>
        have HN : Hid (∀ q (hq : q + 1 < l.length), q < j + 1 → ltN l[q].name l[q+1].name) := (HX.out _ hq).2 rfl
        have hw2 : IntKind.i64.wrap ((j : Int) + 1 + 1) = (j : Int) + 1 + 1 := by rw [IntKind.wrap_i64]; omega
        have hj2 : Hid (j + 1 ≤ 1000) := by show j + 1 ≤ 1000; omega
        clear hq HX
        go_wp2
        go_roundw
        case rel => exact ⟨j + 1, by go_num, hj2.out, HN.out, hHB⟩
        case measure => simp [intOf]; omega
    · have HR : Hid (sortB l = true) := sortB_iff.2 (sort_adj fun q hq => HI.out q hq (by omega))
      have hge : ¬ (j : Int) + 1 < (l.length : Int) := by omega
      clear HI
      go_wp2
      go_ret
      exact ⟨ret_bool HR.out.symm, hB⟩
end

section
open Go.RowKit
attribute [local go_sem] Oper.semAt_some
set_option maxRecDepth 100000

set_option maxHeartbeats 1000000 in
theorem growR_any (n : Nat) (hn : n ≤ 1000) (w : World) :
    Calls Tryz.prog 169 #[.slice none 0 0, .int .i64 n] w fun e w' => ∃ v, e = .returned v ∧ w'.ownsRow w.heap.size 65 2 v 0 [] ∧ Below w.heap.size w w' := by
  rcases Nat.eq_zero_or_pos n with h0 | h0
  · subst h0
    go_enter Tryz.func169, Tryz.ntmps169
    go_wp2
    go_ret
    exact ⟨_, rfl, World.ownsRow_nil _ _ _ _, Below.refl _ _⟩
  · obtain ⟨i0, hi0, hz0, hzs, hzb⟩ := info_parts Tryz.info65
    have hr := Go.Lib.run_append_nil_zeros (P := Tryz.prog) w 34 3 34 65 i0 _ .i64 .i64 Tryz.underlying34 Tryz.underlying3 hi0 hz0 n h0 (by rw [hzs]; decide) (by omega) (by rw [hzb]; omega)
    have hge := grownCap_ge w n 0 65
    have hle := grownCap_le_maxLen w n 0 65 (by unfold maxLen; omega)
    generalize grownCap w n 0 65 = cap at *
    have hown : (w.drew.alloc (.cells (Builtin.zeroCells (Value.agg #[.string { data := #[] }, .int .i64 0]).cells n ++ Builtin.zeroCells (Value.agg #[.string { data := #[] }, .int .i64 0]).cells (cap - n)) 65)).ownsRow w.heap.size 65 2 (.slice (some ⟨w.heap.size, 0, none⟩) 0 cap) 0 [] :=
      World.ownsRow_made w.drew _ cap (Nat.le_refl _) hle (by
        rw [Array.size_append, size_zeroCells, size_zeroCells, ← Nat.add_mul, show (Value.agg #[.string { data := #[] }, .int .i64 0]).cells.size = 2 from rfl]
        congr 1; omega)
    have hb : Below w.heap.size w (w.drew.alloc (.cells (Builtin.zeroCells (Value.agg #[.string { data := #[] }, .int .i64 0]).cells n ++ Builtin.zeroCells (Value.agg #[.string { data := #[] }, .int .i64 0]).cells (cap - n)) 65)) := (Below.refl _ _).drew.trans (below_alloc w.drew _)
    generalize w.drew.alloc (.cells (Builtin.zeroCells (Value.agg #[.string { data := #[] }, .int .i64 0]).cells n ++ Builtin.zeroCells (Value.agg #[.string { data := #[] }, .int .i64 0]).cells (cap - n)) 65) = W1 at *
    have hw1 : IntKind.i64.wrap (n : Int) = n := by rw [IntKind.wrap_i64]; omega
    have hp : (0 : Int) < (n : Int) := by omega
    have hp2 : ¬ (n : Int) < 0 := by omega
    go_enter Tryz.func169, Tryz.ntmps169
    go_wp2_with (at_builtin; refine Lib.wpList_append_run _ rfl _ _ 34 3 rfl _ _ rfl rfl _ _ hr ?_)
    go_ret
    exact ⟨_, rfl, hown, hb⟩

theorem run_append_none34 (w : World) (ty : TypeId) (n cap0 : Nat) (g : Addr) (ad : Option Addr) (c : Nat) (hn : n ≤ cap0) :
    (Builtin.append_ #[34, 34] ty #[.slice (some g) n cap0, .slice ad 0 c]).run Tryz.prog w = .ok (.slice (some g) n cap0) w := by
  obtain ⟨i0, hi, hz0, hz1, hz2⟩ := info_parts Tryz.info65
  cases ad <;> simp [Builtin.append_, run_underlying Tryz.underlying34, sizeOf, typeInfo, hi, Builtin.lenOf, Builtin.firstCells, loadCells, loadCellsFrom, hn, storeCells]
/-- append of a list of refs that may be empty. -/
theorem app_refs_any (w : World) (base : Nat) (ty : TypeId) (v : Value) (xs : List Rf) (hown : w.ownsRow base 65 2 v xs.length (rowR xs)) (a : Option Addr) (c : Nat) (m : List Rf) (h : HoldsR w a m) (hlen : xs.length + m.length ≤ 1000) (hbase : base ≤ w.heap.size) :
    ∃ v' w', (Builtin.append_ #[34, 34] ty #[v, .slice a m.length c]).run Tryz.prog w = .ok v' w' ∧ w'.ownsRow base 65 2 v' (xs ++ m).length (rowR (xs ++ m)) ∧ w.grownBy w' v.ownBlock := by
  by_cases h0 : m.length = 0
  · have e : m = [] := List.eq_nil_of_length_eq_zero h0
    subst e
    obtain ⟨i0, hi0, hz0, hzs, hzb⟩ := info_parts Tryz.info65
    have hgr : ∀ row, w.grownBy w row := fun row => ⟨rfl, rfl, rfl, Nat.le_refl _, fun _ _ _ => rfl⟩
    rw [List.append_nil]
    obtain ⟨q, hq⟩ := hown
    rcases hq with ⟨rfl, e⟩ | ⟨g, cap, cur, rfl, h1, h2, h3, h4, h5, h6⟩
    · exact ⟨_, _, app_none_g Tryz.underlying34 hi0 ty a c w, ⟨q, .inl ⟨rfl, e⟩⟩, hgr _⟩
    · exact ⟨_, _, run_append_none34 w ty _ cap _ a c h3, ⟨q, .inr ⟨g, cap, cur, rfl, h1, h2, h3, h4, h5, h6⟩⟩, hgr _⟩
  · obtain ⟨b, off, rfl, _, hc⟩ := h 0 (by omega)
    exact app_refs w base ty v xs hown b off c m hc hlen hbase
end

section
open Go.RowKit
attribute [local go_sem] Oper.semAt_some
set_option maxRecDepth 100000

theorem own_grown {w w' : World} {z : Nat} {e : TypeId} {size : Nat} {v : Value} {n : Nat} {xs : List Value} (ho : w.ownsRow z e size v n xs) (hg : w.grownBy w' v.ownBlock) (hz : z ≤ w.heap.size) : Below z w w' :=
  ⟨hg.os, hg.tape, hg.output, hg.size, fun k hk => hg.block k (by omega) (fun e => by have := (ho.lt k e.symm).1; omega)⟩
theorem c2_of {w : World} {q : Nat} {x0 x1 : Value} {t : TypeId} (h : w.heap[q]? = some (.cells #[x0, x1] t)) : w.cell? ⟨q, 0, none⟩ = some x0 ∧ w.cell? ⟨q, 1, none⟩ = some x1 := by
  refine ⟨?_, ?_⟩ <;> (rw [cell_of_row w _ _ _ _ _ h]; rfl)
abbrev two34 (a1 : Option Addr) (n1 c1 : Nat) (a2 : Option Addr) (n2 c2 : Nat) : Obj := .cells #[.slice a1 n1 c1, .slice a2 n2 c2] 34

set_option maxHeartbeats 4000000 in
/-- two lists, one behind the other. -/
theorem concat_any (a1 : Option Addr) (c1 : Nat) (l : List Rf) (a2 : Option Addr) (c2 : Nat) (m : List Rf) (g : Nat) (w : World) (hg : w.heap[g]? = some (two34 a1 l.length c1 a2 m.length c2)) (h1 : HoldsR w a1 l) (h2 : HoldsR w a2 m) (hl : l.length ≤ 8) (hm : m.length ≤ 8) :
    Calls Tryz.prog 104 #[.slice (some ⟨g, 0, none⟩) 2 2] w fun e w' => ∃ a c, e = .returned (.slice a (l ++ m).length c) ∧ HoldsR w' a (l ++ m) ∧ Below w.heap.size w w' := by
  go_enter Tryz.func104, Tryz.ntmps104
  go_wp2_with fail
  go_loopw [3, 11] (fun n i wr => Below w.heap.size w wr ∧ ((i = .int .i64 0 ∧ n = .int .i64 0) ∨ (i = .int .i64 1 ∧ n = .int .i64 (l.length : Int)) ∨ (i = .int .i64 2 ∧ n = .int .i64 ((l.length : Int) + (m.length : Int))))) (fun _ i _ => 2 - (intOf i).toNat)
  case atStart => exact ⟨Below.refl _ _, .inl ⟨rfl, rfl⟩⟩
  case round =>
    obtain ⟨hB, ⟨rfl, rfl⟩ | ⟨rfl, rfl⟩ | ⟨rfl, rfl⟩⟩ := hrel
    · have k := (hB.block _ (heap_lt hg)).trans hg
      obtain ⟨y0, y1⟩ := c2_of k
      have hw : IntKind.i64.wrap (l.length : Int) = l.length := by rw [IntKind.wrap_i64]; omega
      have hn : ¬ (l.length : Int) < 0 := by omega
      go_wp2
      go_roundw
      case rel => exact ⟨hB, .inr (.inl ⟨rfl, rfl⟩)⟩
      case measure => simp [intOf]
    · have k := (hB.block _ (heap_lt hg)).trans hg
      obtain ⟨y0, y1⟩ := c2_of k
      have hw : IntKind.i64.wrap ((l.length : Int) + (m.length : Int)) = (l.length : Int) + (m.length : Int) := by rw [IntKind.wrap_i64]; omega
      have hn : ¬ (l.length : Int) + (m.length : Int) < 0 := by omega
      go_wp2
      go_roundw
      case rel => exact ⟨hB, .inr (.inr ⟨rfl, rfl⟩)⟩
      case measure => simp [intOf]
    · have hgr := growR_any (l.length + m.length) (by omega) wr
      rw [Int.natCast_add] at hgr
      go_wp2_with fail
      refine hgr.mono ?_
      clear hgr
      rintro e w1 ⟨v1, rfl, O1, hb1⟩
      have hB1 := hB.trans (hb1.mono hB.size)
      have O1' := ownsRow_from O1 hB.size
      have hz1 := hB1.size
      clear O1 hb1 hB
      go_wp2_with fail
      go_loopw [6, 27] (fun v i wr => Below w.heap.size w wr ∧ ((i = .int .i64 0 ∧ wr.ownsRow w.heap.size 65 2 v 0 (rowR [])) ∨ (i = .int .i64 1 ∧ wr.ownsRow w.heap.size 65 2 v l.length (rowR l)) ∨ (i = .int .i64 2 ∧ wr.ownsRow w.heap.size 65 2 v (l ++ m).length (rowR (l ++ m))))) (fun _ i _ => 2 - (intOf i).toNat)
      case atStart => exact ⟨hB1, .inl ⟨rfl, O1'⟩⟩
      case round =>
        clear hB1 O1' hz1
        obtain ⟨hB, ⟨rfl, O⟩ | ⟨rfl, O⟩ | ⟨rfl, O⟩⟩ := hrel
        · have k := (hB.block _ (heap_lt hg)).trans hg
          obtain ⟨y0, y1⟩ := c2_of k
          obtain ⟨v', w2, hr, O2, g2⟩ := app_refs_any wr w.heap.size 34 _ [] O a1 c1 l (h1.below hB) (by simp; omega) hB.size
          have hB2 := hB.trans ((own_grown O g2 hB.size).mono (Nat.le_refl _))
          rw [List.nil_append] at O2
          clear g2 O
          go_wp2_with (at_builtin; refine Lib.wpList_append_run _ rfl _ _ 34 34 rfl _ _ rfl rfl _ _ hr ?_)
          go_roundw
          case rel => exact ⟨hB2, .inr (.inl ⟨rfl, O2⟩)⟩
          case measure => simp [intOf]
        · have k := (hB.block _ (heap_lt hg)).trans hg
          obtain ⟨y0, y1⟩ := c2_of k
          obtain ⟨v', w2, hr, O2, g2⟩ := app_refs_any wr w.heap.size 34 _ l O a2 c2 m (h2.below hB) (by omega) hB.size
          have hB2 := hB.trans ((own_grown O g2 hB.size).mono (Nat.le_refl _))
          clear g2 O
          go_wp2_with (at_builtin; refine Lib.wpList_append_run _ rfl _ _ 34 34 rfl _ _ rfl rfl _ _ hr ?_)
          go_roundw
          case rel => exact ⟨hB2, .inr (.inr ⟨rfl, O2⟩)⟩
          case measure => simp [intOf]
        · obtain ⟨a', c', rfl, hh⟩ := ownR_reads O
          go_wp2
          go_ret
          exact ⟨_, _, rfl, hh, hB⟩
end

section
open Go.RowKit
attribute [local go_sem] Oper.semAt_some
set_option maxRecDepth 100000

set_option maxHeartbeats 4000000 in
theorem dcheck_any (a1 : Option Addr) (c1 : Nat) (l : List Rf) (a2 : Option Addr) (c2 : Nat) (m : List Rf) (g : Nat) (w : World) (hG : Glob w) (hg : w.heap[g]? = some (two34 a1 l.length c1 a2 m.length c2)) (h1 : HoldsR w a1 l) (h2 : HoldsR w a2 m) :
    Calls Tryz.prog 58 #[.slice (some ⟨g, 0, none⟩) 2 2] w fun e w' => e = .returned (.int .i64 (checkL l m)) ∧ Below w.heap.size w w' := by
  go_enter Tryz.func58, Tryz.ntmps58
  go_wp2_with fail
  go_loopw [12] (fun i wr => Below w.heap.size w wr ∧ (i = .int .i64 0 ∨ (i = .int .i64 1 ∧ l.length ≤ 8) ∨ (i = .int .i64 2 ∧ l.length ≤ 8 ∧ m.length ≤ 8))) (fun i _ => 2 - (intOf i).toNat)
  case atStart => exact ⟨Below.refl _ _, .inl rfl⟩
  case round =>
    obtain ⟨hB, rfl | ⟨rfl, hl⟩ | ⟨rfl, hl, hm⟩⟩ := hrel
    · have k := (hB.block _ (heap_lt hg)).trans hg
      obtain ⟨y0, y1⟩ := c2_of k
      by_cases hl : 8 < l.length
      · have hd : (8 : Int) < (l.length : Int) := by omega
        have HR : Hid (2 = checkL l m) := by unfold Hid checkL; rw [if_pos hl]
        clear hl
        go_wp2
        go_ret
        exact ⟨ret_int HR.out, hB⟩
      · have hd : ¬ (8 : Int) < (l.length : Int) := by omega
        have hl' : Hid (l.length ≤ 8) := Nat.le_of_not_lt hl
        clear hl
        go_wp2
        go_roundw
        case rel => exact ⟨hB, .inr (.inl ⟨rfl, hl'.out⟩)⟩
        case measure => simp [intOf]
    · have k := (hB.block _ (heap_lt hg)).trans hg
      obtain ⟨y0, y1⟩ := c2_of k
      have hl' : Hid (l.length ≤ 8) := hl
      clear hl
      by_cases hl : 8 < m.length
      · have hd : (8 : Int) < (m.length : Int) := by omega
        have HR : Hid (2 = checkL l m) := by unfold Hid checkL; rw [if_neg (by have := hl'.out; omega), if_pos hl]
        clear hl
        go_wp2
        go_ret
        exact ⟨ret_int HR.out, hB⟩
      · have hd : ¬ (8 : Int) < (m.length : Int) := by omega
        have hm' : Hid (m.length ≤ 8) := Nat.le_of_not_lt hl
        clear hl
        go_wp2
        go_roundw
        case rel => exact ⟨hB, .inr (.inr ⟨rfl, hl'.out, hm'.out⟩)⟩
        case measure => simp [intOf]
    · have k := (hB.block _ (heap_lt hg)).trans hg
      have HE : Hid (∀ M, l ++ m = M → checkL l m = if namesE M ≠ 0 then namesE M else if sortB l = false then 4 else if sortB m = false then 4 else 0) := by
        rintro M rfl
        unfold checkL
        rw [if_neg (by omega), if_neg (by omega)]
      have hc := concat_any a1 c1 l a2 c2 m g wr k (h1.below hB) (h2.below hB) hl hm
      have HLM : Hid (l.length ≤ 8 ∧ m.length ≤ 8) := ⟨hl, hm⟩
      clear hl hm
      go_wp2_with fail
      refine hc.mono ?_
      clear hc
      rintro e w1 ⟨a3, c3, rfl, h3, hb1⟩
      have hB1 := hB.trans (hb1.mono hB.size)
      clear hb1 k hB
      obtain ⟨M, hM⟩ : ∃ M, l ++ m = M := ⟨_, rfl⟩
      have HE1 := HE.out M hM
      rw [hM] at h3 ⊢
      have HL : Hid (M.length ≤ 16) := by have := HLM.out; have := congrArg List.length hM; simp at this; show M.length ≤ 16; omega
      have HE2 : Hid (checkL l m = if namesE M ≠ 0 then namesE M else if sortB l = false then 4 else if sortB m = false then 4 else 0) := HE1
      clear HE1 HE hM
      go_wp2_with fail
      go_loopw [23] (fun i wr => ∃ k : Nat, i = .int .i64 k ∧ k ≤ M.length ∧ Below w1.heap.size w1 wr ∧ Hid (namesE M = namesE (M.drop k))) (fun i _ => M.length - (intOf i).toNat)
      case atStart => exact ⟨0, rfl, Nat.zero_le _, Below.refl _ _, rfl⟩
      case round =>
        obtain ⟨k, rfl, hk, hB, H⟩ := hrel
        have hBw := hB1.trans (hB.mono hB1.size)
        by_cases hlt : k < M.length
        · obtain ⟨b, off, rfl, hb, hc⟩ := (h3.below hB) k hlt
          obtain ⟨x0, x1⟩ := hc k hlt
          have hA := below_alloc wr (.cells #[.string M[k].name, .int .i64 M[k].id] 65)
          have hn := heap_alloc_new wr (.cells #[.string M[k].name, .int .i64 M[k].id] 65)
          obtain ⟨z0, z1⟩ := c2_of hn
          have HD : Hid (namesE M = if nameE M[k].name ≠ 0 then nameE M[k].name else namesE (M.drop (k + 1))) := by unfold Hid; rw [H.out, namesE_drop hlt]
          have hB2 := hB.trans (hA.mono hB.size)
          have hBw2 := hB1.trans (hB2.mono hB1.size)
          have hna := name_any M[k].name _ (hG.below hBw2)
          have hk16 : k < 16 := by have := HL.out; omega
          clear hc H hA hn hB
          go_wp2_with fail
          generalize wr.alloc (.cells #[.string M[k].name, .int .i64 M[k].id] 65) = W2 at *
          refine hna.mono ?_
          clear hna
          rintro e W3 ⟨rfl, hb3⟩
          have hB3 := hB2.trans (hb3.mono hB2.size)
          have hBw3 := hB1.trans (hB3.mono hB1.size)
          clear hb3 hB2 hBw2 z0 z1 x0 x1
          by_cases k3 : nameE M[k].name = 0
          case neg =>
            have HR : Hid (nameE M[k].name = checkL l m) := by
              unfold Hid
              have e : namesE M = nameE M[k].name := by rw [HD.out, if_pos k3]
              rw [HE2.out, e, if_pos k3]
            have q1 : (nameE M[k].name != 0) = true := by simpa using k3
            clear k3
            go_wp2
            go_ret
            exact ⟨ret_int HR.out, hBw3⟩
          have HD1 : Hid (namesE M = namesE (M.drop (k + 1))) := by unfold Hid; rw [HD.out, if_neg (fun e => e k3)]
          rw [k3]
          clear k3 HD
          go_wp2
          go_roundw
          case rel => exact ⟨k + 1, by go_num, by omega, hB3, HD1⟩
          case measure => simp [intOf]; omega
        · have HE3 : Hid (checkL l m = if sortB l = false then 4 else if sortB m = false then 4 else 0) := by
            have e : namesE M = 0 := by rw [H.out, List.drop_of_length_le (by omega)]; rfl
            unfold Hid
            rw [HE2.out, if_neg (fun q => q e)]
          clear H HE2
          go_wp2_with fail
          go_loopw [36] (fun i w3 => Below w.heap.size w w3 ∧ (i = .int .i64 0 ∨ (i = .int .i64 1 ∧ sortB l = true) ∨ (i = .int .i64 2 ∧ sortB l = true ∧ sortB m = true))) (fun i _ => 2 - (intOf i).toNat)
          case atStart => exact ⟨hBw, .inl rfl⟩
          case round =>
            clear hB hBw
            obtain ⟨hB, rfl | ⟨rfl, hsl⟩ | ⟨rfl, hsl, hsm⟩⟩ := hrel
            · have k := (hB.block _ (heap_lt hg)).trans hg
              obtain ⟨y0, y1⟩ := c2_of k
              have hr := rises_any a1 c1 l _ (h1.below hB) (by have := HLM.out; omega)
              go_wp2_with fail
              refine hr.mono ?_
              clear hr
              rintro e W4 ⟨rfl, hb4⟩
              have hB4 := hB.trans (hb4.mono hB.size)
              clear hb4 hB k y0 y1
              cases hs : sortB l with
              | false =>
                have HR : Hid (4 = checkL l m) := by unfold Hid; rw [HE3.out, if_pos hs]
                clear hs
                go_wp2
                go_ret
                exact ⟨ret_int HR.out, hB4⟩
              | true =>
                have hs' : Hid (sortB l = true) := hs
                clear hs
                go_wp2
                go_roundw
                case rel => exact ⟨hB4, .inr (.inl ⟨rfl, hs'.out⟩)⟩
                case measure => simp [intOf]
            · have k := (hB.block _ (heap_lt hg)).trans hg
              obtain ⟨y0, y1⟩ := c2_of k
              have hr := rises_any a2 c2 m _ (h2.below hB) (by have := HLM.out; omega)
              have hsl' : Hid (sortB l = true) := hsl
              clear hsl
              go_wp2_with fail
              refine hr.mono ?_
              clear hr
              rintro e W4 ⟨rfl, hb4⟩
              have hB4 := hB.trans (hb4.mono hB.size)
              clear hb4 hB k y0 y1
              cases hs : sortB m with
              | false =>
                have HR : Hid (4 = checkL l m) := by unfold Hid; rw [HE3.out, if_neg (by rw [hsl'.out]; decide), if_pos hs]
                clear hs
                go_wp2
                go_ret
                exact ⟨ret_int HR.out, hB4⟩
              | true =>
                have hs' : Hid (sortB m = true) := hs
                clear hs
                go_wp2
                go_roundw
                case rel => exact ⟨hB4, .inr (.inr ⟨rfl, hsl'.out, hs'.out⟩)⟩
                case measure => simp [intOf]
            · have HR : Hid (0 = checkL l m) := by unfold Hid; rw [HE3.out, if_neg (by rw [hsl]; decide), if_neg (by rw [hsm]; decide)]
              clear hsl hsm
              go_wp2
              go_ret
              exact ⟨ret_int HR.out, hB⟩
end

section
open Go.RowKit
set_option maxRecDepth 100000

/-! The names of two lists, sorted, each once: plain facts. -/
theorem lists_le {x y : List UInt8} : (decide (x ≤ y)) = true ↔ Op.bytesLess y x = false := by
  rw [decide_eq_true_iff, bytesLess_eq]
  simp only [decide_eq_false_iff_not]
  exact Iff.rfl
abbrev leD (x y : List UInt8) : Bool := decide (x ≤ y)
theorem leD_trans (a b c : List UInt8) (h1 : leD a b = true) (h2 : leD b c = true) : leD a c = true :=
  lists_le.2 (less_ntrans (lists_le.1 h2) (lists_le.1 h1))
theorem leD_total (a b : List UInt8) : (leD a b || leD b a) = true := by
  rw [Bool.or_eq_true]
  cases h : Op.bytesLess b a with
  | false => exact .inl (lists_le.2 h)
  | true =>
    refine .inr (lists_le.2 ?_)
    cases h2 : Op.bytesLess a b with
    | false => rfl
    | true => have := less_trans _ _ _ h h2; rw [less_irrefl] at this; cases this
theorem sort_pair (L : List (List UInt8)) : (L.mergeSort leD).Pairwise (fun a b => leD a b = true) := List.pairwise_mergeSort leD_trans leD_total L
theorem sort_mem {L : List (List UInt8)} {x : List UInt8} : x ∈ L.mergeSort leD ↔ x ∈ L := List.mem_mergeSort
theorem sort_len (L : List (List UInt8)) : (L.mergeSort leD).length = L.length := List.length_mergeSort _

theorem compact_get {d : Array (List UInt8)} : ∀ m, m ≤ d.size → (∀ x ∈ Lib.compactUpTo d m, ∃ j, j < m ∧ x = d[j]!) ∧ ∀ j, j < m → d[j]! ∈ Lib.compactUpTo d m
  | 0, _ => ⟨fun x hx => by simp [Lib.compactUpTo] at hx, fun j hj => absurd hj (Nat.not_lt_zero _)⟩
  | m + 1, hm => by
    obtain ⟨i1, i2⟩ := compact_get (d := d) m (by omega)
    rw [Lib.compactUpTo_succ]
    constructor
    · intro x hx
      rcases List.mem_append.1 hx with hx | hx
      · obtain ⟨j, hj, e⟩ := i1 x hx
        exact ⟨j, by omega, e⟩
      · split at hx
        · exact ⟨m, by omega, List.mem_singleton.1 hx⟩
        · cases hx
    · intro j hj
      by_cases hjm : j < m
      · exact List.mem_append_left _ (i2 j hjm)
      · have e : j = m := by omega
        subst e
        by_cases hk : Lib.keeps d j = true
        · rw [if_pos hk]; exact List.mem_append_right _ (List.mem_singleton.2 rfl)
        · rw [if_neg hk, List.append_nil]
          unfold Lib.keeps at hk
          simp only [decide_eq_true_eq, not_or, Decidable.not_not] at hk
          rw [hk.2]
          exact i2 (j - 1) (by omega)
theorem compact_rise {d : Array (List UInt8)} (hd : ∀ i j, i < j → j < d.size → Op.bytesLess d[j]! d[i]! = false) : ∀ m, m ≤ d.size → (Lib.compactUpTo d m).Pairwise (fun a b => Op.bytesLess a b = true)
  | 0, _ => by simp [Lib.compactUpTo]
  | m + 1, hm => by
    have ih := compact_rise hd m (by omega)
    obtain ⟨i1, _⟩ := compact_get (d := d) m (by omega)
    rw [Lib.compactUpTo_succ]
    by_cases hk : Lib.keeps d m = true
    · rw [if_pos hk, List.pairwise_append]
      refine ⟨ih, by simp, fun a ha b hb => ?_⟩
      rw [List.mem_singleton.1 hb]
      obtain ⟨j, hj, rfl⟩ := i1 a ha
      have hne : d[m]! ≠ d[m - 1]! := by
        unfold Lib.keeps at hk
        simp only [decide_eq_true_eq] at hk
        rcases hk with e | e
        · omega
        · exact e
      have h1 : Op.bytesLess d[m - 1]! d[m]! = true := less_total _ _ (hd (m - 1) m (by omega) (by omega)) hne
      by_cases e : j = m - 1
      · rw [e]; exact h1
      · have h2 := hd j (m - 1) (by omega) (by omega)
        cases h3 : Op.bytesLess d[j]! d[m]! with
        | true => rfl
        | false =>
          have := less_ntrans h2 h3
          rw [h1] at this; cases this
    · rw [if_neg hk, List.append_nil]; exact ih
/-- what comes of sort and compact. -/
def uniqB (L : List (List UInt8)) : List (List UInt8) := Lib.compact (L.mergeSort leD)
theorem uniq_mem {L : List (List UInt8)} {x : List UInt8} : x ∈ uniqB L ↔ x ∈ L := by
  refine Iff.trans ?_ sort_mem
  unfold uniqB Lib.compact
  generalize L.mergeSort leD = M
  obtain ⟨i1, i2⟩ := compact_get (d := M.toArray) M.length (by simp)
  constructor
  · intro h
    obtain ⟨j, hj, rfl⟩ := i1 x h
    rw [getElem!_pos _ j (by simpa using hj)]
    simp
  · intro h
    obtain ⟨j, hj, rfl⟩ := List.mem_iff_getElem.1 h
    have := i2 j hj
    rw [getElem!_pos _ j (by simpa using hj)] at this
    simpa using this
theorem uniq_rise (L : List (List UInt8)) : (uniqB L).Pairwise (fun a b => Op.bytesLess a b = true) := by
  have hp := sort_pair L
  unfold uniqB Lib.compact
  generalize L.mergeSort leD = M at *
  refine compact_rise (fun i j hij hj => ?_) _ (by simp)
  have hj' : j < M.length := by simpa using hj
  rw [getElem!_pos _ j (by simpa using hj'), getElem!_pos _ i (by simp; omega)]
  exact lists_le.1 (List.pairwise_iff_getElem.1 hp i j (by omega) hj' hij)
def bytesOf (b : List UInt8) : ByteArray := ⟨b.toArray⟩
theorem bytesOf_list (x : ByteArray) : bytesOf x.data.toList = x := by cases x; rfl
def namesL2 (l m : List Rf) : List (List UInt8) := (l ++ m).map (fun r => r.name.data.toList)
theorem names_of (l m : List Rf) : NamesOf l m ((uniqB (namesL2 l m)).map bytesOf) := by
  constructor
  · refine List.pairwise_map.2 ((uniq_rise _).imp fun {a b} h => ?_)
    unfold ltN
    rw [ByteArray.toList_eq, ByteArray.toList_eq]
    simpa [bytesOf] using h
  · intro n
    rw [List.mem_map]
    constructor
    · rintro ⟨b, hb, rfl⟩
      rw [uniq_mem] at hb
      obtain ⟨r, hr, rfl⟩ := List.mem_map.1 hb
      exact ⟨r, hr, (bytesOf_list _).symm⟩
    · rintro ⟨r, hr, rfl⟩
      exact ⟨_, uniq_mem.2 (List.mem_map.2 ⟨r, hr, rfl⟩), bytesOf_list _⟩
end

section
open Go.RowKit
attribute [local go_sem] Oper.semAt_some
set_option maxRecDepth 100000

theorem Tryz.info9 : (Tryz.prog.info? 9).map (fun i => (i.zero, i.size, i.bytes)) = some (some (.string { data := #[] }), 1, 16) := by kernel_rfl
/-- append of a name. -/
theorem app_str (w : World) (base : Nat) (ty : TypeId) (v : Value) (xs : List ByteArray) (hown : w.ownsRow base 9 1 v xs.length (xs.map Value.string)) (vb : Nat) (s : ByteArray) (hv : w.heap[vb]? = some (.cells #[.string s] 9)) (hlen : xs.length ≤ 1000) (hbase : base ≤ w.heap.size) :
    ∃ v' w', (Builtin.append_ #[93, 93] ty #[v, .slice (some ⟨vb, 0, none⟩) 1 1]).run Tryz.prog w = .ok v' w' ∧ w'.ownsRow base 9 1 v' (xs ++ [s]).length ((xs ++ [s]).map Value.string) ∧ w.grownBy w' v.ownBlock := by
  obtain ⟨i0, hi0, hz0, hzs, hzb⟩ := info_parts Tryz.info9
  obtain ⟨v', w', hr, q1, q2, _⟩ := run_append_own (P := Tryz.prog) w base 93 ty 9 i0 _ 1 16 Tryz.underlying93 hi0 hz0 hzs hzb rfl (by omega) v xs.length (xs.map Value.string) hown ⟨vb, 0, none⟩ 1 1 [.string s] rfl
    (World.news_of_block hv) (by intro u hu; rw [List.mem_singleton.1 hu]; rfl) (by unfold maxLen; omega) (by omega) hbase
  exact ⟨v', w', hr, by rw [List.length_append, List.map_append]; exact q1, q2⟩

theorem putStr_block (w : World) (n g : Nat) (d : Array (List UInt8)) (cur : Array Value) (t : TypeId) (os : Array Obj) (hg : w.heap[g]? = some (.cells cur t)) (hs : d.size ≤ cur.size) :
    ∃ cur', (Sort.grow (Sort.putRow encStr (Sort.ahead w n) g 0 d) os).heap[g]? = some (.cells cur' t) ∧ cur'.size = cur.size ∧ ∀ j, j < d.size → cur'[j]? = some (encStr d[j]!) := by
  refine ⟨Sort.putCells encStr 0 d cur, ?_, by simp [Sort.putCells], fun j hj => ?_⟩
  · rw [Sort.heap_grow_old _ _ (by simpa using heap_lt hg)]
    show ((w.heap.modify g (Sort.onCells (Sort.putCells encStr 0 d))))[g]? = _
    rw [Array.getElem?_modify, if_pos rfl, hg]
    rfl
  · simp only [Sort.putCells, Array.getElem?_mapIdx]
    rw [Array.getElem?_eq_getElem (by omega)]
    simp [hj]
theorem putStr_grown (w : World) (n g : Nat) (d : Array (List UInt8)) (os : Array Obj) : w.grownBy (Sort.grow (Sort.putRow encStr (Sort.ahead w n) g 0 d) os) (some g) := by
  refine ⟨rfl, rfl, rfl, by simp, fun k hk hne => ?_⟩
  rw [Sort.heap_grow_old _ _ (by simpa using hk)]
  show ((w.heap.modify g (Sort.onCells (Sort.putCells encStr 0 d))))[k]? = _
  rw [Array.getElem?_modify, if_neg (fun e => hne (by rw [e]))]
theorem holdsE {w : World} {g : Nat} {cur : Array Value} {t : TypeId} {d : Array (List UInt8)} (hg : w.heap[g]? = some (.cells cur t)) (hc : ∀ j, j < d.size → cur[j]? = some (encStr d[j]!)) : Sort.Holds encStr w g 0 d := by
  intro j hj
  refine ⟨?_, by simp [World.frozen?, hg]⟩
  rw [cell_of_row w g _ _ _ _ hg, Nat.zero_add]
  exact hc j hj
theorem own_any_slice {w : World} {z : Nat} {e : TypeId} {size : Nat} {v : Value} {n : Nat} {xs : List Value} (h : w.ownsRow z e size v n xs) : ∃ a c, v = .slice a n c := by
  rcases h.2 with ⟨rfl, e⟩ | ⟨g, cap, _, e, _⟩
  · exact ⟨_, _, by rw [e]⟩
  · exact ⟨_, _, e⟩
theorem uniq_len (L : List (List UInt8)) : (Lib.compact (L.mergeSort leD)).length ≤ L.length := by
  have h := Lib.compact_length_le (L.mergeSort leD)
  rwa [sort_len] at h

set_option maxHeartbeats 4000000 in
theorem names2_any (a1 : Option Addr) (c1 : Nat) (l : List Rf) (a2 : Option Addr) (c2 : Nat) (m : List Rf) (g : Nat) (w : World) (hg : w.heap[g]? = some (two34 a1 l.length c1 a2 m.length c2)) (h1 : HoldsR w a1 l) (h2 : HoldsR w a2 m) (hl : l.length ≤ 8) (hm : m.length ≤ 8) :
    Calls Tryz.prog 59 #[.slice (some ⟨g, 0, none⟩) 2 2] w fun e w' => ∃ ns a c, e = .returned (.slice a ns.length c) ∧ HoldsT w' a ns ∧ NamesOf l m ns ∧ ns.length ≤ 16 ∧ Below w.heap.size w w' := by
  have hc := concat_any a1 c1 l a2 c2 m g w hg h1 h2 hl hm
  go_enter Tryz.func59, Tryz.ntmps59
  go_wp2_with fail
  refine hc.mono ?_
  clear hc
  rintro e w1 ⟨a3, c3, rfl, h3, hb1⟩
  obtain ⟨M, hM⟩ : ∃ M, l ++ m = M := ⟨_, rfl⟩
  have HN : Hid (NamesOf l m ((uniqB (M.map (fun r => r.name.data.toList))).map bytesOf)) := by rw [← hM]; exact names_of l m
  have HL : Hid (M.length ≤ 16) := by have := congrArg List.length hM; simp at this; show M.length ≤ 16; omega
  rw [hM] at h3 ⊢
  clear hM
  go_wp2_with fail
  go_loopw [3, 9] (fun v i wr => ∃ (k : Nat) (v0 : Value), v = v0 ∧ i = .int .i64 k ∧ k ≤ M.length ∧ Below w1.heap.size w1 wr ∧ wr.ownsRow w1.heap.size 9 1 v0 ((M.take k).map Rf.name).length (((M.take k).map Rf.name).map Value.string)) (fun _ i _ => M.length - (intOf i).toNat)
  case atStart => exact ⟨0, _, rfl, rfl, Nat.zero_le _, Below.refl _ _, World.ownsRow_nil _ _ _ _⟩
  case round =>
    obtain ⟨k, v, rfl, rfl, hk, hB, O⟩ := hrel
    by_cases hlt : k < M.length
    · obtain ⟨b, off, rfl, hb, hc⟩ := (h3.below hB) k hlt
      obtain ⟨x0, x1⟩ := hc k hlt
      have hA := below_alloc wr (.cells #[.string M[k].name, .int .i64 M[k].id] 65)
      have hn := heap_alloc_new wr (.cells #[.string M[k].name, .int .i64 M[k].id] 65)
      obtain ⟨z0, z1⟩ := c2_of hn
      have hk16 : k < 16 := by have := HL.out; omega
      have hB2 := hB.trans (hA.mono hB.size)
      have O2 := ownsRow_below O hA
      have hA3 := below_alloc (wr.alloc (.cells #[.string M[k].name, .int .i64 M[k].id] 65)) (.cells #[.string M[k].name] 9)
      obtain ⟨_, hv⟩ := two_blocks wr (.cells #[.string M[k].name, .int .i64 M[k].id] 65) (.cells #[.string M[k].name] 9)
      have hB3 := hB2.trans (hA3.mono hB2.size)
      have O3 := ownsRow_below O2 hA3
      obtain ⟨v', w4, hr, O4, g4⟩ := app_str _ w1.heap.size 93 _ ((M.take k).map Rf.name) O3 _ M[k].name hv (by rw [List.length_map, List.length_take]; omega) hB3.size
      have hB4 := hB3.trans ((own_grown O3 g4 hB3.size).mono (Nat.le_refl _))
      have HO : Hid (w4.ownsRow w1.heap.size 9 1 v' ((M.take (k + 1)).map Rf.name).length (((M.take (k + 1)).map Rf.name).map Value.string)) := by
        have e : (M.take (k + 1)).map Rf.name = (M.take k).map Rf.name ++ [M[k].name] := by
          rw [List.take_succ_eq_append_getElem hlt, List.map_append]; rfl
        unfold Hid
        rw [e]; exact O4
      have HB : Hid (Below w1.heap.size w1 w4) := hB4
      clear hc hn hA O O2 O3 O4 hA3 hv hB2 hB3 g4 hB4 hB
      go_wp2_with (at_builtin; refine Lib.wpList_append_run _ rfl _ _ 93 93 rfl _ _ rfl rfl _ _ hr ?_)
      go_roundw
      case rel => exact ⟨k + 1, _, rfl, by go_num, by omega, HB.out, HO.out⟩
      case measure => simp [intOf]; omega
    · have hkM : k = M.length := by omega
      subst hkM
      have e2 : (M.take M.length).map Rf.name = M.map Rf.name := by rw [List.take_length]
      rw [e2] at O
      clear e2 hlt hk
      have hBw := hb1.trans (hB.mono hb1.size)
      obtain ⟨L, hL⟩ : ∃ L, M.map (fun r => r.name.data.toList) = L := ⟨_, rfl⟩
      have hLM : Hid (L = (M.map Rf.name).map (fun s => s.data.toList)) := by rw [← hL]; show _ = _; rw [List.map_map]; rfl
      have hLl : L.length = M.length := by rw [← hL, List.length_map]
      rw [hL] at HN
      have hns : Hid (((uniqB L).map bytesOf).length ≤ 16) := by
        show ((uniqB L).map bytesOf).length ≤ 16
        rw [List.length_map]
        have := uniq_len L
        have := HL.out
        unfold uniqB; omega
      have hz1 := hB.size
      rw [List.length_map] at O
      clear hL
      by_cases h0 : M.length = 0
      · obtain ⟨a, c, rfl⟩ := own_any_slice O
        rw [h0]
        have hs := Tryz.slices_Sort_string_none a c wr
        have hc := Tryz.slices_Compact_string_empty a c wr
        have HU : Hid ((uniqB L).map bytesOf = []) := by
          unfold Hid
          apply List.eq_nil_of_length_eq_zero
          rw [List.length_map]
          have := uniq_len L
          unfold uniqB; omega
        clear O h0 hLl
        go_wp2_with fail
        refine hs.mono ?_
        clear hs
        rintro e w5 ⟨rfl, rfl⟩
        go_wp2_with fail
        refine hc.mono ?_
        clear hc
        rintro e w5 ⟨rfl, rfl⟩
        go_wp2
        go_ret
        exact ⟨[], a, c, rfl, fun i hi => absurd hi (Nat.not_lt_zero _), by rw [← HU.out]; exact HN.out, Nat.zero_le _, hBw⟩
      · obtain ⟨q0, qv⟩ := O
        rcases qv with ⟨_, e⟩ | ⟨g', cap, cur, rfl, q1, q2, q3, q4, q5, q6⟩
        · exact absurd e h0
        have hH : Sort.Holds encStr wr g' 0 L.toArray := by
          refine holdsE q2 fun j hj => ?_
          have hj' : j < L.length := by simpa using hj
          have h7 := congrArg (fun l => l[j]?) q6
          simp only [List.getElem?_take] at h7
          rw [if_pos (by omega)] at h7
          rw [getElem!_pos _ j hj]
          rw [Array.getElem?_toList] at h7
          rw [h7]
          have h8 : L[j]? = ((M.map Rf.name).map (fun s => s.data.toList))[j]? := by rw [hLM.out]
          rw [List.getElem?_eq_getElem hj'] at h8
          simp only [List.getElem?_map] at h8 ⊢
          cases hM : M[j]? with
          | none => rw [hM] at h8; cases h8
          | some r =>
            rw [hM] at h8
            simp only [Option.map_some, Option.some.injEq] at h8
            simp only [Option.map_some, List.getElem_toArray, h8, encStr]
        have hL16 := HL.out
        have hs := Tryz.slices_Sort_string g' 0 cap L wr hH (heap_lt q2) (by omega)
        rw [hLl] at hs
        have hcur : M.length ≤ cur.size := by omega
        have hcap : M.length ≤ cap := q3
        obtain ⟨Z, hZ⟩ : ∃ Z, L.mergeSort leD = Z := ⟨_, rfl⟩
        have hZl : Z.length = M.length := by rw [← hZ, sort_len, hLl]
        have HZ : Hid (uniqB L = Lib.compact Z) := by unfold Hid uniqB; rw [hZ]
        have hs2 : Calls Tryz.prog 107 #[.slice (some ⟨g', 0, none⟩) M.length cap] wr fun e w' => e = .returned (.tuple #[]) ∧ ∃ cur2, w'.heap[g']? = some (.cells cur2 9) ∧ cur2.size = cur.size ∧ (∀ j, j < Z.toArray.size → cur2[j]? = some (encStr Z.toArray[j]!)) ∧ Below w1.heap.size wr w' := by
          refine hs.mono ?_
          rintro e w5 ⟨rfl, n5, os5, rfl⟩
          have e1 : (L.mergeSort fun x y => decide (x ≤ y)) = Z := hZ
          rw [e1]
          obtain ⟨cur2, t1, t2, t3⟩ := putStr_block wr n5 g' Z.toArray cur 9 os5 q2 (by rw [List.size_toArray]; omega)
          have hg := putStr_grown wr n5 g' Z.toArray os5
          exact ⟨rfl, cur2, t1, t2, t3, ⟨hg.os, hg.tape, hg.output, hg.size, fun k hk => hg.block k (by omega) (fun e => by cases e; omega)⟩⟩
        clear hs q0 q6 q2 q5 hH hZ
        go_wp2_with fail
        refine hs2.mono ?_
        clear hs2
        rintro e w5 ⟨rfl, cur2, t1, t2, t3, hb5⟩
        have hB5 := hB.trans (hb5.mono (Nat.le_refl _))
        clear hb5 hB hBw hz1
        have hH5 := holdsE t1 t3
        have hc := Tryz.slices_Compact_string g' 0 cap Z w5 hH5 (by omega) (by omega)
        rw [hZl] at hc
        have hcl : (Lib.compact Z).length ≤ Z.length := Lib.compact_length_le Z
        have hc2 : Calls Tryz.prog 108 #[.slice (some ⟨g', 0, none⟩) M.length cap] w5 fun e w' => e = .returned (.slice (some ⟨g', 0, none⟩) ((Lib.compact Z).map bytesOf).length cap) ∧ HoldsT w' (some ⟨g', 0, none⟩) ((Lib.compact Z).map bytesOf) ∧ Below w1.heap.size w5 w' := by
          refine hc.mono ?_
          rintro e w6 ⟨rfl, n6, rfl⟩
          generalize hD : (Lib.compact Z ++ List.replicate (M.length - (Lib.compact Z).length) []).toArray = D
          have hDs : D.size = M.length := by rw [← hD, List.size_toArray, List.length_append, List.length_replicate]; omega
          obtain ⟨cur3, u1, u2, u3⟩ := putStr_block w5 n6 g' D cur2 9 #[] t1 (by omega)
          have hg := putStr_grown w5 n6 g' D #[]
          rw [Sort.grow_empty] at u1 hg
          refine ⟨by rw [List.length_map], fun i hi => ⟨g', 0, rfl, heap_lt u1, fun j hj => ?_⟩, ⟨hg.os, hg.tape, hg.output, hg.size, fun k hk => hg.block k (by have := hB5.size; omega) (fun e => by cases e; omega)⟩⟩
          have hj' : j < (Lib.compact Z).length := by simpa using hj
          rw [Nat.zero_add, cell_of_row _ g' _ _ _ _ u1, u3 j (by omega)]
          rw [getElem!_pos _ j (by omega)]
          simp only [← hD, List.getElem_toArray, List.getElem_map]
          rw [List.getElem_append_left hj']
          rfl
        clear hc hH5
        rw [HZ.out] at HN hns
        generalize (Lib.compact Z).map bytesOf = ns at *
        go_wp2_with fail
        refine hc2.mono ?_
        clear hc2
        rintro e w6 ⟨rfl, hT, hb6⟩
        have hB6 := hb1.trans ((hB5.trans (hb6.mono (Nat.le_refl _))).mono hb1.size)
        clear hb6 hB5
        go_wp2
        go_ret
        exact ⟨ns, _, _, rfl, hT, HN.out, hns.out, hB6⟩
end

section
open Go.RowKit
attribute [local go_sem] Oper.semAt_some
set_option maxRecDepth 100000

/-- append of an update. -/
theorem app_up1 (w : World) (base : Nat) (ty : TypeId) (v : Value) (xs : List Up) (hown : w.ownsRow base 40 3 v xs.length (rowU xs)) (vb : Nat) (u : Up) (hv : w.heap[vb]? = some (.cells #[.string u.name, .int .i64 u.old, .int .i64 u.new] 40)) (hlen : xs.length ≤ 1000) (hbase : base ≤ w.heap.size) :
    ∃ v' w', (Builtin.append_ #[26, 26] ty #[v, .slice (some ⟨vb, 0, none⟩) 1 1]).run Tryz.prog w = .ok v' w' ∧ w'.ownsRow base 40 3 v' (xs ++ [u]).length (rowU (xs ++ [u])) ∧ w.grownBy w' v.ownBlock := by
  obtain ⟨i0, hi0, hz0, hzs, hzb⟩ := info_parts Tryz.info40
  obtain ⟨v', w', hr, q1, q2, _⟩ := run_append_own (P := Tryz.prog) w base 26 ty 40 i0 _ 3 32 Tryz.underlying26 hi0 hz0 hzs hzb rfl (by omega) v xs.length (rowU xs) hown ⟨vb, 0, none⟩ 1 1 [.string u.name, .int .i64 u.old, .int .i64 u.new] rfl
    (World.news_of_block hv) (by intro u hu; simp only [List.mem_cons, List.not_mem_nil, or_false] at hu; rcases hu with rfl | rfl | rfl <;> rfl) (by unfold maxLen; omega) (by omega) hbase
  exact ⟨v', w', hr, by rw [List.length_append, rowU_append]; exact q1, q2⟩

def RfPost (l m : List Rf) (w : World) (e : Ending) (w' : World) : Prop :=
  Below w.heap.size w w' ∧ ((checkL l m ≠ 0 ∧ e = .returned (.tuple #[.slice none 0 0, .int .i64 (checkL l m)])) ∨
    (checkL l m = 0 ∧ ∃ ns a c, e = .returned (.tuple #[.slice a (leadL l m ns).length c, .int .i64 0]) ∧ NamesOf l m ns ∧ HoldsU w' a (leadL l m ns) ∧ (leadL l m ns).length ≤ 16 ∧ w'.ownsRow w.heap.size 40 3 (.slice a (leadL l m ns).length c) (leadL l m ns).length (rowU (leadL l m ns))))

set_option maxHeartbeats 4000000 in
theorem drefs_any (a1 : Option Addr) (c1 : Nat) (l : List Rf) (a2 : Option Addr) (c2 : Nat) (m : List Rf) (w : World) (hG : Glob w) (h1 : HoldsR w a1 l) (h2 : HoldsR w a2 m) :
    Calls Tryz.prog 19 #[.slice a1 l.length c1, .slice a2 m.length c2] w (RfPost l m w) := by
  obtain ⟨PO, HPO⟩ : ∃ P : Ending → World → Prop, Hid (P = RfPost l m w) := ⟨_, rfl⟩
  rw [← HPO.out]
  have hA := below_alloc w (two34 a1 l.length c1 a2 m.length c2)
  have kg := heap_alloc_new w (two34 a1 l.length c1 a2 m.length c2)
  have hc := dcheck_any a1 c1 l a2 c2 m _ _ (hG.below hA) kg (h1.below hA) (h2.below hA)
  go_enter Tryz.func19, Tryz.ntmps19
  go_wp2_with fail
  refine hc.mono ?_
  clear hc
  rintro e w1 ⟨rfl, hb1⟩
  have hB1 := hA.trans (hb1.mono hA.size)
  clear hb1 hA kg
  by_cases e1 : checkL l m = 0
  case neg =>
    have HF : Hid (∀ w', Below w.heap.size w w' → PO (.returned (.tuple #[.slice none 0 0, .int .i64 (checkL l m)])) w') := fun w' hb => by
      rw [HPO.out]; exact ⟨hb, .inl ⟨e1, rfl⟩⟩
    have q1 : (checkL l m != 0) = true := by simpa using e1
    clear e1
    generalize checkL l m = E at *
    go_wp2
    exact HF.out _ hB1
  have HE : Hid (checkL l m = 0) := e1
  rw [e1]
  obtain ⟨hl8, hm8, _⟩ := checkL_zero.1 e1
  clear e1
  have hA := below_alloc w1 (two34 a1 l.length c1 a2 m.length c2)
  have kg := heap_alloc_new w1 (two34 a1 l.length c1 a2 m.length c2)
  have hB2 := hB1.trans (hA.mono hB1.size)
  have hc := names2_any a1 c1 l a2 c2 m _ _ kg (h1.below hB2) (h2.below hB2) hl8 hm8
  clear kg
  go_wp2_with fail
  refine hc.mono ?_
  clear hc
  rintro e w2 ⟨ns, a3, c3, rfl, hT, hN, hn16, hb2⟩
  have hB3 := hB2.trans (hb2.mono hB2.size)
  have HN : Hid (NamesOf l m ns ∧ ns.length ≤ 16) := ⟨hN, hn16⟩
  clear hb2 hA hB1 hB2 hN
  go_wp2_with fail
  go_loopw [7, 26] (fun v i wr => ∃ (k : Nat) (v0 : Value), v = v0 ∧ i = .int .i64 k ∧ k ≤ ns.length ∧ Below w2.heap.size w2 wr ∧ wr.ownsRow w2.heap.size 40 3 v0 (leadL l m (ns.take k)).length (rowU (leadL l m (ns.take k)))) (fun _ i _ => ns.length - (intOf i).toNat)
  case atStart => exact ⟨0, _, rfl, rfl, Nat.zero_le _, Below.refl _ _, World.ownsRow_nil _ _ _ _⟩
  case round =>
    obtain ⟨k, v, rfl, rfl, hk, hB, O⟩ := hrel
    have hBw := hB3.trans (hB.mono hB3.size)
    by_cases hlt : k < ns.length
    · obtain ⟨b, off, rfl, hb, hc⟩ := (hT.below hB) k hlt
      have x0 := hc k hlt
      have hg1 := get_any a2 c2 m ns[k] wr (hG.below hBw) (h2.below hBw) (by omega)
      have HT : Hid (leadL l m (ns.take (k + 1)) = leadL l m (ns.take k) ++ (leadU l m ns[k]).toList) := lead_take hlt
      have HU : Hid (leadU l m ns[k] = if getE m ns[k] ≠ getE l ns[k] ∨ getI m ns[k] ≠ getI l ns[k] then some ⟨ns[k], getI m ns[k], getI l ns[k]⟩ else none) := rfl
      have hll : (leadL l m (ns.take k)).length ≤ 16 := by
        have := lead_length l m (ns.take k); rw [List.length_take] at this; omega
      clear hc
      go_wp2_with fail
      refine hg1.mono ?_
      clear hg1
      rintro e w3 ⟨rfl, hb3⟩
      have hB4 := hB.trans (hb3.mono hB.size)
      have hBw4 := hB3.trans (hB4.mono hB3.size)
      have O3 := ownsRow_below O hb3
      have hg1 := get_any a1 c1 l ns[k] w3 (hG.below hBw4) (h1.below hBw4) (by omega)
      clear O hb3 hB hBw hBw4
      go_wp2_with fail
      refine hg1.mono ?_
      clear hg1
      rintro e w4 ⟨rfl, hb4⟩
      have hB5 := hB4.trans (hb4.mono hB4.size)
      have O4 := ownsRow_below O3 hb4
      clear O3 hb4 hB4 x0
      generalize ns[k] = n at *
      by_cases hd : getE m n ≠ getE l n ∨ getI m n ≠ getI l n
      · have HU2 : Hid (leadU l m n = some ⟨n, getI m n, getI l n⟩) := by unfold Hid; rw [HU.out, if_pos hd]
        have hA := below_alloc w4 (.cells #[.string n, .int .i64 (getI m n), .int .i64 (getI l n)] 40)
        have hv := heap_alloc_new w4 (.cells #[.string n, .int .i64 (getI m n), .int .i64 (getI l n)] 40)
        have hB6 := hB5.trans (hA.mono hB5.size)
        obtain ⟨v', w5, hr, O5, g5⟩ := app_up1 _ w2.heap.size 26 _ (leadL l m (ns.take k)) (ownsRow_below O4 hA) _ ⟨n, getI m n, getI l n⟩ hv (by omega) hB6.size
        have HB : Hid (Below w2.heap.size w2 w5) := hB6.trans ((own_grown (ownsRow_below O4 hA) g5 hB6.size).mono (Nat.le_refl _))
        have HO : Hid (w5.ownsRow w2.heap.size 40 3 v' (leadL l m (ns.take (k + 1))).length (rowU (leadL l m (ns.take (k + 1))))) := by
          unfold Hid
          rw [HT.out, HU2.out]; exact O5
        clear O5 g5 hB6 hv hA O4 hB5 HU HU2 HT
        obtain ⟨E1, hE1⟩ : ∃ E1, E1 = getE m n := ⟨_, rfl⟩
        obtain ⟨E2, hE2⟩ : ∃ E2, E2 = getE l n := ⟨_, rfl⟩
        obtain ⟨I1, hI1⟩ : ∃ I1, I1 = getI m n := ⟨_, rfl⟩
        obtain ⟨I2, hI2⟩ : ∃ I2, I2 = getI l n := ⟨_, rfl⟩
        rw [← hE1, ← hE2, ← hI1, ← hI2] at hd
        rw [← hI1, ← hI2] at hr
        rw [← hE1, ← hE2, ← hI1, ← hI2]
        clear hE1 hE2 hI1 hI2
        by_cases he : E1 = E2
        · subst he
          have hi : (I1 != I2) = true := by simpa using hd
          clear hd
          go_wp2_with (at_builtin; refine Lib.wpList_append_run _ rfl _ _ 26 26 rfl _ _ rfl rfl _ _ hr ?_)
          go_roundw
          case rel => exact ⟨k + 1, _, rfl, by go_num, by omega, HB.out, HO.out⟩
          case measure => simp [intOf]; omega
        · have hi : (E1 != E2) = true := by simpa using he
          clear hd he
          go_wp2_with (at_builtin; refine Lib.wpList_append_run _ rfl _ _ 26 26 rfl _ _ rfl rfl _ _ hr ?_)
          go_roundw
          case rel => exact ⟨k + 1, _, rfl, by go_num, by omega, HB.out, HO.out⟩
          case measure => simp [intOf]; omega
      · have HU2 : Hid (leadU l m n = none) := by unfold Hid; rw [HU.out, if_neg hd]
        obtain ⟨aX, cX, rfl⟩ := own_any_slice O4
        have HO : Hid (w4.ownsRow w2.heap.size 40 3 (.slice aX (leadL l m (ns.take k)).length cX) (leadL l m (ns.take (k + 1))).length (rowU (leadL l m (ns.take (k + 1))))) := by
          unfold Hid
          rw [HT.out, HU2.out, Option.toList_none, List.append_nil]; exact O4
        have HD : getE m n = getE l n ∧ getI m n = getI l n := by
          constructor
          · exact Classical.byContradiction fun e => hd (.inl e)
          · exact Classical.byContradiction fun e => hd (.inr e)
        rw [HD.1, HD.2]
        clear O4 hd HU HU2 HT HD
        generalize getE l n = E1
        generalize getI l n = I1
        go_wp2
        go_roundw
        case rel => exact ⟨k + 1, _, rfl, by go_num, by omega, hB5, HO.out⟩
        case measure => simp [intOf]; omega
    · have hkM : k = ns.length := by omega
      subst hkM
      rw [List.take_length] at O
      have o2 := ownsRow_from O hB3.size
      obtain ⟨a', c', rfl, hU, _⟩ := ownU_reads O
      have HF : Hid (PO (.returned (.tuple #[.slice a' (leadL l m ns).length c', .int .i64 0])) wr) := by
        unfold Hid
        rw [HPO.out]
        have := lead_length l m ns
        exact ⟨hBw, .inr ⟨HE.out, ns, a', c', rfl, HN.out.1, hU, by have := HN.out.2; omega, o2⟩⟩
      clear O o2 hU
      go_wp2
      exact HF.out
end
end Go.Proofs.YtehmlpkapjdhkaaGreatDoor
