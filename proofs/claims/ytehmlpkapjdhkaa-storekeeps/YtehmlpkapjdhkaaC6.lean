/-
  Proved: forestaylaw.StoreKeeps, called with any two lists of objects that can be read as data, returns true, and both lists read behind the call as they read before (the given statement StoreKeepsSaid, no condition beside the row's own).
-/
import Derived.Test.YtehmlpkapjdhkaaE1
import Derived.Test.YtehmlpkapjdhkaaE2
namespace Go.Proofs.Ytehmlpkapjdhkaa
open Go.ChangeShapes Go.WideShapes Go.ChangeAt Go.RowKit Go.Joins Go.Deep

theorem storeKeeps_any (a : Option Addr) (c : Nat) (l : List Ob) (a2 : Option Addr) (c2 : Nat) (m : List Ob) (w : World) (h : HoldsS w a l) (hl : l.length ≤ 9223372036854775807) (hnil : a = none → c = 0) (h2 : HoldsS w a2 m) (hm : m.length ≤ 9223372036854775807) (hnil2 : a2 = none → c2 = 0) :
    Calls Try.prog 4 #[.slice a l.length c, .slice a2 m.length c2] w fun e w' => e = .returned (.bool true) ∧ Below w.heap.size w w' := by
  by_cases he : addE l m = 0
  · exact storeKeeps_ok a c l a2 c2 m w h hnil h2 hnil2 he
  · exact storeKeeps_err a c l a2 c2 m w h hl h2 hm he

set_option maxRecDepth 100000 in
theorem storeKeeps_lifted (os : Os) (started : os.Started) (H : Type) (enc : TypeId × Value → H) :
    ReturnsInHanded {} Try.checked os 4 .any (Rows.storeKeepsSpec.pre6 enc Try.prog Try.f4 Rows.storeKeepsRow.domain false) (Rows.storeKeepsSpec.post enc Try.prog Try.f4 false true false false) := by
  refine returnsInHanded_of_change_sized (C := Try.checked) Try.own started (by kernel_rfl) Try.func4
    (ChangeSpec.witness6 (enc := enc) (C := Try.checked) false ⟨#[], #[.slice none 0 0, .slice none 0 0], []⟩ 8 (by kernel_rfl) (by kernel_rfl) (by kernel_rfl) (by kernel_rfl)) ?_
  intro W base args ds gs before hval0 hW _ hsz0 _
  clear hsz0
  have hval : ∀ (j : Nat) t v, Try.f4.params[j]? = some t → args[j]? = some v → Value.okWide Try.prog W .any base t v := hval0
  have hW' := hW
  obtain ⟨p, q, hA0, hV, rfl, hfz, hnd⟩ := hW
  have hA : DataW.TrodAll enc Try.prog W 0 (fun _ => true) true Try.f4.params.toList args.toList ds p := hA0
  rw [Try.params4] at hA hval
  obtain ⟨v0, v1, d0, d1, p0, p1, rfl, rfl, rfl, h0, h1⟩ := trodAll_two hA
  obtain ⟨rfl, rfl⟩ := trodVars_none hV
  clear hA0 hval0
  simp only [List.append_nil] at hW'
  obtain ⟨a, c, l, rfl, hh, hL, _, hnil⟩ := open_objects (hval 0 22 v0 rfl rfl) h0
  obtain ⟨a2, c2, m, rfl, hh2, hL2, _, hnil2⟩ := open_objects (hval 1 22 v1 rfl rfl) h1
  have hlt : ∀ x ∈ p0, x.block < W.heap.size := fun x hx => hW'.lt x (by simp [hx])
  have hlt1 : ∀ x ∈ p1, x.block < W.heap.size := fun x hx => hW'.lt x (by simp [hx])
  refine (storeKeeps_any a c l a2 c2 m W hh (by unfold maxLen at hL; omega) hnil hh2 (by unfold maxLen at hL2; omega) hnil2).mono fun e W' ⟨he, hB⟩ => ?_
  subst he
  have ha := Below.trod Try.laidOut (by kernel_rfl) (of_decide_eq_true (by kernel_rfl)) h0 hB hlt
  have hb := Below.trod Try.laidOut (by kernel_rfl) (of_decide_eq_true (by kernel_rfl)) h1 hB hlt1
  refine ⟨_, rfl, _, _, _, [], p0 ++ p1, [], hW', ?_, ?_, rfl, hB.frame _, fun h => by cases h⟩
  · exact trodAll_mk1 (shut_bool Try.underlying4 true)
  · exact trodAll_mk2 ha hb

theorem storeKeeps_holds : Rows.StoreKeepsSaid :=
  OpenClaim.holds_of_wide 4 Try.f4 rfl rfl rfl rfl rfl rfl rfl ⟨rfl, rfl, rfl, rfl, rfl⟩ rfl rfl rfl rfl rfl (by kernel_rfl) Try.func4 (by kernel_rfl)
    (of_decide_eq_true (by kernel_rfl)) (by unfold Func.isWrapper; first | (rw [if_pos (by decide +kernel)]; kernel_rfl) | (rw [if_neg (by decide +kernel)]; exact ⟨rfl, rfl⟩))
    (fun os started H enc _ => storeKeeps_lifted os started H enc)
#print axioms storeKeeps_holds
end Go.Proofs.Ytehmlpkapjdhkaa
