/-
  Proved: forestaylaw.ObjectTells, called with any object and any text that can be read as data, returns true, and both arguments read behind the call as they read before (the given statement ObjectTellsSaid, no condition beside the row's own).
-/
import Derived.Test.YtdclffgbmcecdaaA15
import Derived.Test.YtdclffgbmcecdaaB8
import Derived.SizedLaws
namespace Go.Proofs.Ytdclffgbmcecdaa
open Go.ChangeShapes Go.WideShapes Go.ChangeAt Go.RowKit
open Go.ChangeMaps (open_string shut_string)

theorem objectTells_any (id kind : Int) (a : Option Addr) (c : Nat) (L : List Int) (t s : ByteArray) (w : World)
    (h : Holds w a L) (l : L.length ≤ maxLen) (hs : s.size ≤ reachBytes) :
    Calls Try.prog 4 #[.agg #[.int .i64 id, .int .i64 kind, .slice a L.length c, .string t], .string s] w fun e w' => e = .returned (.bool true) ∧ Below w.heap.size w w' := by
  unfold maxLen at l
  have hr := reachBytes_lt
  have hs' : s.size ≤ 140737488355328 := by omega
  by_cases hb : ∃ i k L' T, Begins s i k L' T
  · obtain ⟨i, k, L', T, hbeg⟩ := hb
    by_cases hck : checkE i k L' T.length = 0
    · by_cases he : checkE id kind L t.size = 0
      · exact objectTells_oA id kind a c L t s w h hs' he i k L' T hbeg hck
      · exact objectTells_eA id kind a c L t s w h hs' (by omega) he i k L' T hbeg hck
    · by_cases he : checkE id kind L t.size = 0
      · exact objectTells_oB id kind a c L t s w h hs' he i k L' T hbeg hck
      · exact objectTells_eB id kind a c L t s w h hs' (by omega) he i k L' T hbeg hck
  · have hno : ∀ i k L' T, ¬ Begins s i k L' T := fun i k L' T e => hb ⟨i, k, L', T, e⟩
    by_cases he : checkE id kind L t.size = 0
    · exact objectTells_oC id kind a c L t s w h hs' he hno
    · exact objectTells_eC id kind a c L t s w h hs' (by omega) he hno

set_option maxRecDepth 100000 in
theorem objectTells_lifted (os : Os) (started : os.Started) (H : Type) (enc : TypeId × Value → H) :
    ReturnsInHanded {} Try.checked os 4 .any (Rows.objectTellsSpec.pre6 enc Try.prog Try.f4 Rows.objectTellsRow.domain false) (Rows.objectTellsSpec.post enc Try.prog Try.f4 false true false false) := by
  refine returnsInHanded_of_change_sized (C := Try.checked) Try.own started (by kernel_rfl) Try.func4
    (ChangeSpec.witness6 (enc := enc) (C := Try.checked) false ⟨#[], #[.agg #[.int .i64 0, .int .i64 0, .slice none 0 0, .string ByteArray.empty], .string ByteArray.empty], []⟩ 8 (by kernel_rfl) (by kernel_rfl) (by kernel_rfl) (by kernel_rfl)) ?_
  intro W base args ds gs before hval0 hW _ hsz0 _
  have hsz : (DataW.weightsEach Try.prog (Try.f4.params.toList ++ Rows.objectTellsSpec.plain.varTypes Try.prog) (ds ++ gs)).all (· ≤ reachBytes) = true := hsz0
  clear hsz0
  have hval : ∀ (j : Nat) t v, Try.f4.params[j]? = some t → args[j]? = some v → Value.okWide Try.prog W .any base t v := hval0
  have hW' := hW
  obtain ⟨p, q, hA0, hV, rfl, hfz, hnd⟩ := hW
  have hA : DataW.TrodAll enc Try.prog W 0 (fun _ => true) true Try.f4.params.toList args.toList ds p := hA0
  rw [Try.params4] at hA hval hsz
  obtain ⟨v0, v1, d0, d1, p0, p1, rfl, rfl, rfl, h0, h1⟩ := trodAll_two hA
  obtain ⟨rfl, rfl⟩ := trodVars_none hV
  clear hA0 hval0
  simp only [List.append_nil] at hW'
  obtain ⟨id, kind, a, c, L, t, rfl, hh, hL, _⟩ := open_object (hval 0 24 v0 rfl rfl) h0
  obtain ⟨s, rfl, rfl, rfl, hs⟩ := open_string Try.underlying9 (hval 1 9 v1 rfl rfl) h1
  simp only [List.append_nil] at hW'
  have hlt : ∀ x ∈ p0, x.block < W.heap.size := fun x hx => by simpa using hW'.lt x hx
  have hs47 : s.size ≤ reachBytes := sized_string hsz (j := 1) (t := 9) (bytes := s.data.toList) rfl rfl
  refine (objectTells_any id kind a c L t s W hh hL hs47).mono fun e W' ⟨he, hB⟩ => ?_
  subst he
  have ha := Below.trod Try.laidOut (by kernel_rfl) (of_decide_eq_true (by kernel_rfl)) h0 hB hlt
  refine ⟨_, rfl, _, _, _, [], p0 ++ [], [], hW', ?_, ?_, rfl, hB.frame _, fun h => by cases h⟩
  · exact trodAll_mk1 (shut_bool Try.underlying4 true)
  · exact trodAll_mk2 ha (shut_string Try.underlying9 hs)

theorem objectTells_holds : Rows.ObjectTellsSaid :=
  OpenClaim.holds_of_wide 4 Try.f4 rfl rfl rfl rfl rfl rfl rfl ⟨rfl, rfl, rfl, rfl, rfl⟩ rfl rfl rfl rfl rfl (by kernel_rfl) Try.func4 (by kernel_rfl)
    (of_decide_eq_true (by kernel_rfl)) (by unfold Func.isWrapper; first | (rw [if_pos (by decide +kernel)]; kernel_rfl) | (rw [if_neg (by decide +kernel)]; exact ⟨rfl, rfl⟩))
    (fun os started H enc _ => objectTells_lifted os started H enc)
#print axioms objectTells_holds
end Go.Proofs.Ytdclffgbmcecdaa
