/-
  Proved: forestaylaw.ObjectBack, called with any object and any text that can be read as data, returns true, and both arguments read behind the call as they read before (the given statement ObjectBackSaid, no condition beside the row's own).
-/
import Derived.Test.YtdclffgbmcecdaaA15
import Derived.Test.YtdclffgbmcecdaaB1
import Derived.SizedLaws
namespace Go.Proofs.Ytdclffgbmcecdaa
open Go.ChangeShapes Go.WideShapes Go.ChangeAt Go.RowKit
open Go.ChangeMaps (open_string shut_string)

theorem objectBack_any (id kind : Int) (a : Option Addr) (c : Nat) (L : List Int) (t s : ByteArray) (w : World)
    (h : Holds w a L) (l : L.length ≤ maxLen) (hs : s.size ≤ reachBytes) :
    Calls Try.prog 5 #[.agg #[.int .i64 id, .int .i64 kind, .slice a L.length c, .string t], .string s] w fun e w' => e = .returned (.bool true) ∧ Below w.heap.size w w' := by
  unfold maxLen at l
  have hr := reachBytes_lt
  by_cases he : checkE id kind L t.size = 0
  · exact objectBack_ok id kind a c L t s w h (by omega) he
  · exact objectBack_err id kind a c L t s w h (by omega) (by omega) he

set_option maxRecDepth 100000 in
theorem objectBack_lifted (os : Os) (started : os.Started) (H : Type) (enc : TypeId × Value → H) :
    ReturnsInHanded {} Try.checked os 5 .any (Rows.objectBackSpec.pre6 enc Try.prog Try.f5 Rows.objectBackRow.domain false) (Rows.objectBackSpec.post enc Try.prog Try.f5 false true false false) := by
  refine returnsInHanded_of_change_sized (C := Try.checked) Try.own started (by kernel_rfl) Try.func5
    (ChangeSpec.witness6 (enc := enc) (C := Try.checked) false ⟨#[], #[.agg #[.int .i64 0, .int .i64 0, .slice none 0 0, .string ByteArray.empty], .string ByteArray.empty], []⟩ 8 (by kernel_rfl) (by kernel_rfl) (by kernel_rfl) (by kernel_rfl)) ?_
  intro W base args ds gs before hval0 hW _ hsz0 _
  have hsz : (DataW.weightsEach Try.prog (Try.f5.params.toList ++ Rows.objectBackSpec.plain.varTypes Try.prog) (ds ++ gs)).all (· ≤ reachBytes) = true := hsz0
  clear hsz0
  have hval : ∀ (j : Nat) t v, Try.f5.params[j]? = some t → args[j]? = some v → Value.okWide Try.prog W .any base t v := hval0
  have hW' := hW
  obtain ⟨p, q, hA0, hV, rfl, hfz, hnd⟩ := hW
  have hA : DataW.TrodAll enc Try.prog W 0 (fun _ => true) true Try.f5.params.toList args.toList ds p := hA0
  rw [Try.params5] at hA hval hsz
  obtain ⟨v0, v1, d0, d1, p0, p1, rfl, rfl, rfl, h0, h1⟩ := trodAll_two hA
  obtain ⟨rfl, rfl⟩ := trodVars_none hV
  clear hA0 hval0
  simp only [List.append_nil] at hW'
  obtain ⟨id, kind, a, c, L, t, rfl, hh, hL, _⟩ := open_object (hval 0 24 v0 rfl rfl) h0
  obtain ⟨s, rfl, rfl, rfl, hs⟩ := open_string Try.underlying9 (hval 1 9 v1 rfl rfl) h1
  simp only [List.append_nil] at hW'
  have hlt : ∀ x ∈ p0, x.block < W.heap.size := fun x hx => by simpa using hW'.lt x hx
  have hs47 : s.size ≤ reachBytes := sized_string hsz (j := 1) (t := 9) (bytes := s.data.toList) rfl rfl
  refine (objectBack_any id kind a c L t s W hh hL hs47).mono fun e W' ⟨he, hB⟩ => ?_
  subst he
  have ha := Below.trod Try.laidOut (by kernel_rfl) (of_decide_eq_true (by kernel_rfl)) h0 hB hlt
  refine ⟨_, rfl, _, _, _, [], p0 ++ [], [], hW', ?_, ?_, rfl, hB.frame _, fun h => by cases h⟩
  · exact trodAll_mk1 (shut_bool Try.underlying4 true)
  · exact trodAll_mk2 ha (shut_string Try.underlying9 hs)

theorem objectBack_holds : Rows.ObjectBackSaid :=
  OpenClaim.holds_of_wide 5 Try.f5 rfl rfl rfl rfl rfl rfl rfl ⟨rfl, rfl, rfl, rfl, rfl⟩ rfl rfl rfl rfl rfl (by kernel_rfl) Try.func5 (by kernel_rfl)
    (of_decide_eq_true (by kernel_rfl)) (by unfold Func.isWrapper; first | (rw [if_pos (by decide +kernel)]; kernel_rfl) | (rw [if_neg (by decide +kernel)]; exact ⟨rfl, rfl⟩))
    (fun os started H enc _ => objectBack_lifted os started H enc)
#print axioms objectBack_holds
end Go.Proofs.Ytdclffgbmcecdaa
