/-
  Proved: forestaylaw.ObjectLinks, called with any object that can be read as data, returns true, and it reads behind the call as it read before (the given statement ObjectLinksSaid, no condition beside the row's own).
-/
import Derived.Test.YtdclffgbmcecdaaA16
import Derived.Test.YtdclffgbmcecdaaB4
namespace Go.Proofs.Ytdclffgbmcecdaa
open Go.ChangeShapes Go.WideShapes Go.ChangeAt Go.RowKit

theorem objectLinks_any (id kind : Int) (a : Option Addr) (c : Nat) (L : List Int) (t : ByteArray) (w : World)
    (h : Holds w a L) (l : L.length ≤ maxLen) (hcap : L.length ≤ c) :
    Calls Try.prog 3 #[.agg #[.int .i64 id, .int .i64 kind, .slice a L.length c, .string t]] w fun e w' => e = .returned (.bool true) ∧ Below w.heap.size w w' := by
  unfold maxLen at l
  by_cases he : checkE id kind L t.size = 0
  · exact objectLinks_good id kind a c L t w h hcap he
  · exact objectLinks_bad id kind a c L t w h (by omega) he

set_option maxRecDepth 100000 in
theorem objectLinks_lifted (os : Os) (started : os.Started) (H : Type) (enc : TypeId × Value → H) :
    ReturnsInHanded {} Try.checked os 3 .any (Rows.objectLinksSpec.pre6 enc Try.prog Try.f3 Rows.objectLinksRow.domain false) (Rows.objectLinksSpec.post enc Try.prog Try.f3 false true false false) := by
  refine returnsInHanded_of_change (C := Try.checked) Try.own started (by kernel_rfl) Try.func3
    (ChangeSpec.witness6 (enc := enc) (C := Try.checked) false ⟨#[], #[.agg #[.int .i64 0, .int .i64 0, .slice none 0 0, .string ByteArray.empty]], []⟩ 8 (by kernel_rfl) (by kernel_rfl) (by kernel_rfl) (by kernel_rfl)) ?_
  intro W base args ds gs before hval0 hW _ _
  have hval : ∀ (j : Nat) t v, Try.f3.params[j]? = some t → args[j]? = some v → Value.okWide Try.prog W .any base t v := hval0
  have hW' := hW
  obtain ⟨p, q, hA0, hV, rfl, hfz, hnd⟩ := hW
  have hA : DataW.TrodAll enc Try.prog W 0 (fun _ => true) true Try.f3.params.toList args.toList ds p := hA0
  rw [Try.params3] at hA hval
  obtain ⟨v0, d0, rfl, rfl, h0⟩ := trodAll_one hA
  obtain ⟨rfl, rfl⟩ := trodVars_none hV
  clear hA0 hval0
  simp only [List.append_nil] at hW'
  obtain ⟨id, kind, a, c, L, t, rfl, hh, hL, _, hcap⟩ := open_object_cap (hval 0 24 v0 rfl rfl) h0
  have hlt : ∀ x ∈ p, x.block < W.heap.size := fun x hx => by simpa using hW'.lt x hx
  refine (objectLinks_any id kind a c L t W hh hL hcap).mono fun e W' ⟨he, hB⟩ => ?_
  subst he
  have ha := Below.trod Try.laidOut (by kernel_rfl) (of_decide_eq_true (by kernel_rfl)) h0 hB hlt
  refine ⟨_, rfl, _, _, _, [], p, [], hW', ?_, ?_, rfl, hB.frame _, fun h => by cases h⟩
  · exact trodAll_mk1 (shut_bool Try.underlying4 true)
  · exact trodAll_mk1 ha

theorem objectLinks_holds : Rows.ObjectLinksSaid :=
  OpenClaim.holds_of_wide 3 Try.f3 rfl rfl rfl rfl rfl rfl rfl ⟨rfl, rfl, rfl, rfl, rfl⟩ rfl rfl rfl rfl rfl (by kernel_rfl) Try.func3 (by kernel_rfl)
    (of_decide_eq_true (by kernel_rfl)) (by unfold Func.isWrapper; first | (rw [if_pos (by decide +kernel)]; kernel_rfl) | (rw [if_neg (by decide +kernel)]; exact ⟨rfl, rfl⟩))
    (fun os started H enc _ => objectLinks_lifted os started H enc)
#print axioms objectLinks_holds
end Go.Proofs.Ytdclffgbmcecdaa
