/-
  Proved: forestaylaw.ObjectApart, called with any two objects that can be read as data, returns true, and both read behind the call as they read before (the given statement ObjectApartSaid, no condition beside the row's own).
-/
import Derived.Test.YtdclffgbmcecdaaA15
import Derived.Test.YtdclffgbmcecdaaB2
namespace Go.Proofs.Ytdclffgbmcecdaa
open Go.ChangeShapes Go.WideShapes Go.ChangeAt Go.RowKit

theorem objectApart_any (i1 k1 : Int) (a1 : Option Addr) (c1 : Nat) (L1 : List Int) (t1 : ByteArray) (i2 k2 : Int) (a2 : Option Addr) (c2 : Nat) (L2 : List Int) (t2 : ByteArray) (w : World)
    (h1 : Holds w a1 L1) (h2 : Holds w a2 L2) (l1 : L1.length ≤ maxLen) (l2 : L2.length ≤ maxLen) :
    Calls Try.prog 6 #[.agg #[.int .i64 i1, .int .i64 k1, .slice a1 L1.length c1, .string t1], .agg #[.int .i64 i2, .int .i64 k2, .slice a2 L2.length c2, .string t2]] w
      fun e w' => e = .returned (.bool true) ∧ Below w.heap.size w w' := by
  unfold maxLen at l1 l2
  by_cases he1 : checkE i1 k1 L1 t1.size = 0
  · by_cases he2 : checkE i2 k2 L2 t2.size = 0
    · exact objectApart_oo i1 k1 a1 c1 L1 t1 i2 k2 a2 c2 L2 t2 w h1 h2 he1 he2
    · exact objectApart_oe i1 k1 a1 c1 L1 t1 i2 k2 a2 c2 L2 t2 w h1 h2 he1 (by omega) he2
  · by_cases he2 : checkE i2 k2 L2 t2.size = 0
    · exact objectApart_eo i1 k1 a1 c1 L1 t1 i2 k2 a2 c2 L2 t2 w h1 h2 (by omega) he1 he2
    · exact objectApart_ee i1 k1 a1 c1 L1 t1 i2 k2 a2 c2 L2 t2 w h1 h2 (by omega) he1 (by omega) he2

set_option maxRecDepth 100000 in
theorem objectApart_lifted (os : Os) (started : os.Started) (H : Type) (enc : TypeId × Value → H) :
    ReturnsInHanded {} Try.checked os 6 .any (Rows.objectApartSpec.pre6 enc Try.prog Try.f6 Rows.objectApartRow.domain false) (Rows.objectApartSpec.post enc Try.prog Try.f6 false true false false) := by
  refine returnsInHanded_of_change (C := Try.checked) Try.own started (by kernel_rfl) Try.func6
    (ChangeSpec.witness6 (enc := enc) (C := Try.checked) false ⟨#[], #[.agg #[.int .i64 0, .int .i64 0, .slice none 0 0, .string ByteArray.empty], .agg #[.int .i64 0, .int .i64 0, .slice none 0 0, .string ByteArray.empty]], []⟩ 8 (by kernel_rfl) (by kernel_rfl) (by kernel_rfl) (by kernel_rfl)) ?_
  intro W base args ds gs before hval0 hW _ _
  have hval : ∀ (j : Nat) t v, Try.f6.params[j]? = some t → args[j]? = some v → Value.okWide Try.prog W .any base t v := hval0
  have hW' := hW
  obtain ⟨p, q, hA0, hV, rfl, hfz, hnd⟩ := hW
  have hA : DataW.TrodAll enc Try.prog W 0 (fun _ => true) true Try.f6.params.toList args.toList ds p := hA0
  rw [Try.params6] at hA hval
  obtain ⟨v0, v1, d0, d1, p0, p1, rfl, rfl, rfl, h0, h1⟩ := trodAll_two hA
  obtain ⟨rfl, rfl⟩ := trodVars_none hV
  clear hA0 hval0
  simp only [List.append_nil] at hW'
  obtain ⟨i1, k1, a1, c1, L1, t1, rfl, hh1, hL1, _⟩ := open_object (hval 0 24 v0 rfl rfl) h0
  obtain ⟨i2, k2, a2, c2, L2, t2, rfl, hh2, hL2, _⟩ := open_object (hval 1 24 v1 rfl rfl) h1
  have hlt : ∀ x ∈ p0 ++ p1, x.block < W.heap.size := fun x hx => by simpa using hW'.lt x hx
  refine (objectApart_any i1 k1 a1 c1 L1 t1 i2 k2 a2 c2 L2 t2 W hh1 hh2 hL1 hL2).mono fun e W' ⟨he, hB⟩ => ?_
  subst he
  have ha := Below.trod Try.laidOut (by kernel_rfl) (of_decide_eq_true (by kernel_rfl)) h0 hB (fun x hx => hlt x (List.mem_append_left _ hx))
  have hb := Below.trod Try.laidOut (by kernel_rfl) (of_decide_eq_true (by kernel_rfl)) h1 hB (fun x hx => hlt x (List.mem_append_right _ hx))
  refine ⟨_, rfl, _, _, _, [], p0 ++ p1, [], hW', ?_, ?_, rfl, hB.frame _, fun h => by cases h⟩
  · exact trodAll_mk1 (shut_bool Try.underlying4 true)
  · exact trodAll_mk2 ha hb

theorem objectApart_holds : Rows.ObjectApartSaid :=
  OpenClaim.holds_of_wide 6 Try.f6 rfl rfl rfl rfl rfl rfl rfl ⟨rfl, rfl, rfl, rfl, rfl⟩ rfl rfl rfl rfl rfl (by kernel_rfl) Try.func6 (by kernel_rfl)
    (of_decide_eq_true (by kernel_rfl)) (by unfold Func.isWrapper; first | (rw [if_pos (by decide +kernel)]; kernel_rfl) | (rw [if_neg (by decide +kernel)]; exact ⟨rfl, rfl⟩))
    (fun os started H enc _ => objectApart_lifted os started H enc)
#print axioms objectApart_holds
end Go.Proofs.Ytdclffgbmcecdaa
