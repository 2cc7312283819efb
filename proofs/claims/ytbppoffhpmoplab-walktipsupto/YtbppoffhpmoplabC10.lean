/-
  Proved: forestaylaw.WalkTips, called with any list of objects and any two lists of numbers that can be read as data, returns true, and the lists read behind the call as they read before, where they hold together at most 1,048,576 values and letters (the given statement WalkTipsUptoSaid: that bound is its own condition).
-/
import Derived.Test.YtbppoffhpmoplabE6
import Derived.Test.YtbppoffhpmoplabF18
import Derived.JoinedCond
namespace Go.Proofs.Ytbppoffhpmoplab
open Go.ChangeShapes Go.WideShapes Go.ChangeAt Go.RowKit Go.Joins Go.Deep

theorem walkTips_any (p : Option Addr) (cp : Nat) (l : List Ob) (a1 : Option Addr) (c1 : Nat) (A : List Int) (a2 : Option Addr) (c2 : Nat) (B : List Int) (w : World) (h : HoldsS w p l) (hl : l.length ≤ 9223372036854775807)
    (hA : Holds w a1 A) (hB : Holds w a2 B) (hlen : A.length + B.length ≤ 3000000) :
    Calls Try.prog 5 #[.slice p l.length cp, .slice a1 A.length c1, .slice a2 B.length c2] w fun e w' => e = .returned (.bool true) ∧ Below w.heap.size w w' := by
  by_cases hz : reachE l A = 0 ∧ reachE l B = 0
  · exact walkTips_ok p cp l a1 c1 A a2 c2 B w h hA hB hlen hz.1 hz.2
  · exact walkTips_bad p cp l a1 c1 A a2 c2 B w h hl hA (by omega) hB (by omega) hz

/-- each value counts at least one. -/
theorem bulk_pos {H : Type} (d : DataW H) : 0 < Rows.uptoBulk d := by
  match d with
  | .lit x => cases x <;> simp [Rows.uptoBulk]
  | .nil => simp [Rows.uptoBulk]
  | .ptr _ => simp [Rows.uptoBulk]
  | .slice _ _ => simp [Rows.uptoBulk]
  | .agg _ => simp [Rows.uptoBulk]
  | .iface _ _ => simp [Rows.uptoBulk]
  | .map _ => simp [Rows.uptoBulk]
  | .held _ => simp [Rows.uptoBulk]
theorem bulk_count {H : Type} : ∀ l : List (DataW H), l.length ≤ Rows.uptoBulkAll l
  | [] => Nat.zero_le _
  | d :: l => by
    have h1 := bulk_pos d
    have h2 := bulk_count l
    rw [Rows.uptoBulkAll, List.length_cons]
    omega
/-- a list of so many elements counts at least as much. -/
theorem bulk_list {H : Type} {d : DataW H} {n : Nat} (h : n = 0 ∨ ∃ elems spare, d = .slice elems spare ∧ elems.length = n) : n ≤ Rows.uptoBulk d := by
  rcases h with rfl | ⟨elems, spare, rfl, rfl⟩
  · exact Nat.zero_le _
  · have := bulk_count elems
    rw [Rows.uptoBulk]
    omega

theorem walkTips_contract (H : Type) (enc : TypeId × Value → H) (W : World) (base : Nat) (args : Array Value) (ds gs : List (DataW H)) (before : List MemPlace)
    (hval0 : ∀ (j : Nat) t v, Try.f5.params[j]? = some t → args[j]? = some v → Value.okWide Try.prog W .any base t v)
    (hW : DataW.Whole enc Try.prog Try.f5.params.toList Rows.walkTipsSpec.vars false W args.toList ds gs before) (hk : Rows.uptoSmall H (ds ++ gs) = true) :
    Calls Try.prog 5 args W fun e W' => ∃ v, e = .returned v ∧ Rows.walkTipsSpec.post enc Try.prog Try.f5 false true false false W args v W' := by
  have hval : ∀ (j : Nat) t v, Try.f5.params[j]? = some t → args[j]? = some v → Value.okWide Try.prog W .any base t v := hval0
  have hW' := hW
  obtain ⟨p, q, hA0, hV, rfl, hfz, hnd⟩ := hW
  have hA : DataW.TrodAll enc Try.prog W 0 (fun _ => true) true Try.f5.params.toList args.toList ds p := hA0
  rw [Try.params5] at hA hval
  obtain ⟨v0, v1, v2, d0, d1, d2, p0, p1, p2, rfl, rfl, rfl, h0, h1, h2⟩ := trodAll_three hA
  obtain ⟨rfl, rfl⟩ := trodVars_none hV
  clear hA0 hval0
  simp only [List.append_nil] at hW' hk
  obtain ⟨a, c, l, rfl, hh, hL, _, _, _⟩ := open_objects2 (hval 0 22 v0 rfl rfl) h0
  obtain ⟨a1, c1, A, rfl, hhA, _, _, _, hdA⟩ := open_nums2 (hval 1 27 v1 rfl rfl) h1
  obtain ⟨a2, c2, B, rfl, hhB, _, _, _, hdB⟩ := open_nums2 (hval 2 27 v2 rfl rfl) h2
  have hb : Rows.uptoBulkAll [d0, d1, d2] ≤ 1048576 := of_decide_eq_true hk
  simp only [Rows.uptoBulkAll] at hb
  have hdA' := bulk_list hdA
  have hdB' := bulk_list hdB
  have hlt : ∀ x ∈ p0, x.block < W.heap.size := fun x hx => hW'.lt x (by simp [hx])
  have hlt1 : ∀ x ∈ p1, x.block < W.heap.size := fun x hx => hW'.lt x (by simp [hx])
  have hlt2 : ∀ x ∈ p2, x.block < W.heap.size := fun x hx => hW'.lt x (by simp [hx])
  refine (walkTips_any a c l a1 c1 A a2 c2 B W hh (by unfold maxLen at hL; omega) hhA hhB (by omega)).mono fun e W' ⟨he, hB⟩ => ?_
  subst he
  have ha := Below.trod Try.laidOut (by kernel_rfl) (of_decide_eq_true (by kernel_rfl)) h0 hB hlt
  have hb1 := Below.trod Try.laidOut (by kernel_rfl) (of_decide_eq_true (by kernel_rfl)) h1 hB hlt1
  have hb2 := Below.trod Try.laidOut (by kernel_rfl) (of_decide_eq_true (by kernel_rfl)) h2 hB hlt2
  refine ⟨_, rfl, _, _, _, [], p0 ++ (p1 ++ p2), [], hW', ?_, ?_, rfl, hB.frame _, fun h => by cases h⟩
  · exact trodAll_mk1 (shut_bool Try.underlying4 true)
  · exact trodAll_mk3 ha hb1 hb2

set_option maxRecDepth 100000 in
theorem walkTips_lifted (os : Os) (started : os.Started) (H : Type) (enc : TypeId × Value → H) (F : Stop.Interp) :
    ReturnsInHanded {} Try.checked os 5 .any ((Rows.OpenSpec.upto Rows.walkTipsSpec).pre6 enc Try.prog Try.f5 Rows.walkTipsUptoRow.domain false) (((Rows.OpenSpec.upto Rows.walkTipsSpec).at F).post enc Try.prog Try.f5 false true false false) := by
  refine returnsInHanded_of_cond (C := Try.checked) (s := Rows.OpenSpec.upto Rows.walkTipsSpec) (k := Rows.uptoSmall) rfl Try.own started (by kernel_rfl) Try.func5
    (OpenSpec.witness (enc := enc) (C := Try.checked) (s := Rows.OpenSpec.upto Rows.walkTipsSpec) (k := Rows.uptoSmall) rfl false ⟨#[], #[.slice none 0 0, .slice none 0 0, .slice none 0 0], []⟩ 8 (by kernel_rfl) (by kernel_rfl) (by kernel_rfl)
      (x := ([.nil, .nil, .nil], [], [])) (by kernel_rfl) rfl (by kernel_rfl)) ?_
  intro W base args ds gs before hval hW _ hk _
  exact walkTips_contract H enc W base args ds gs before hval hW hk

theorem walkTipsUpto_holds : Rows.WalkTipsUptoSaid :=
  OpenClaim.holds_of_cond 5 Try.f5 rfl rfl rfl rfl rfl rfl rfl ⟨rfl, rfl, rfl, rfl, rfl⟩ rfl rfl rfl rfl rfl (by kernel_rfl) Try.func5 (by kernel_rfl)
    (of_decide_eq_true (by kernel_rfl)) (by unfold Func.isWrapper; first | (rw [if_pos (by decide +kernel)]; kernel_rfl) | (rw [if_neg (by decide +kernel)]; exact ⟨rfl, rfl⟩))
    (fun os started H enc _ F => walkTips_lifted os started H enc F)
#print axioms walkTipsUpto_holds
end Go.Proofs.Ytbppoffhpmoplab
