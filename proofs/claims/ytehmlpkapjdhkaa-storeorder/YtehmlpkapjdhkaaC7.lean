/-
  Proved: forestaylaw.StoreOrder, called with any two lists of objects and any number that can be read as data, returns true, and both lists read behind the call as they read before (the given statement StoreOrderSaid, no condition beside the row's own).
-/
import Derived.Test.YtehmlpkapjdhkaaE1
import Derived.Test.YtehmlpkapjdhkaaE4
namespace Go.Proofs.Ytehmlpkapjdhkaa
open Go.ChangeShapes Go.WideShapes Go.ChangeAt Go.RowKit Go.Joins Go.Deep

theorem slice_datum {H : Type} {enc : TypeId × Value → H} {W : World} {a : Option Addr} {len c : Nat} {d : DataW H} {p : List MemPlace}
    (h : DataW.Trod enc Try.prog W 0 (fun _ => true) true 22 (.slice a len c) d p) : len = 0 ∨ ∃ elems spare, d = .slice elems spare ∧ elems.length = len := by
  obtain ⟨fuel, hf⟩ := h
  have hf' : DataW.trod enc Try.prog W 0 (fun _ => true) true fuel 22 [.slice a len c] = some (d, p) := hf
  rcases open_slice Try.underlying22 hf' with ⟨e, _⟩ | ⟨a', len', cap, m, n, D, Pl, e, _, hl, hm, hmm, hx, _⟩
  · simp only [List.cons.injEq, and_true, Value.slice.injEq] at e
    exact .inl e.2.1
  · simp only [List.cons.injEq, and_true, Value.slice.injEq] at e
    refine .inr ⟨_, _, congrArg Prod.fst hx, ?_⟩
    rw [List.length_map, List.length_range, e.2.1]

theorem bytes29 : Try.prog.bytesOf 28 = 56 := by kernel_rfl

set_option maxRecDepth 100000 in
theorem storeOrder_lifted (os : Os) (started : os.Started) (H : Type) (enc : TypeId × Value → H) :
    ReturnsInHanded {} Try.checked os 5 .any (Rows.storeOrderSpec.pre6 enc Try.prog Try.f5 Rows.storeOrderRow.domain false) (Rows.storeOrderSpec.post enc Try.prog Try.f5 false true false false) := by
  refine returnsInHanded_of_change_sized (C := Try.checked) Try.own started (by kernel_rfl) Try.func5
    (ChangeSpec.witness6 (enc := enc) (C := Try.checked) false ⟨#[], #[.slice none 0 0, .slice none 0 0, .int .i64 0], []⟩ 8 (by kernel_rfl) (by kernel_rfl) (by kernel_rfl) (by kernel_rfl)) ?_
  intro W base args ds gs before hval0 hW _ hsz0 _
  have hsz : (DataW.weightsEach Try.prog (Try.f5.params.toList ++ Rows.storeOrderSpec.plain.varTypes Try.prog) (ds ++ gs)).all (· ≤ reachBytes) = true := hsz0
  clear hsz0
  have hval : ∀ (j : Nat) t v, Try.f5.params[j]? = some t → args[j]? = some v → Value.okWide Try.prog W .any base t v := hval0
  have hW' := hW
  obtain ⟨p, q, hA0, hV, rfl, hfz, hnd⟩ := hW
  have hA : DataW.TrodAll enc Try.prog W 0 (fun _ => true) true Try.f5.params.toList args.toList ds p := hA0
  rw [Try.params5] at hA hval hsz
  obtain ⟨v0, v1, v2, d0, d1, d2, p0, p1, p2, rfl, rfl, rfl, h0, h1, h2⟩ := trodAll_three hA
  obtain ⟨rfl, rfl⟩ := trodVars_none hV
  clear hA0 hval0
  simp only [List.append_nil] at hW'
  obtain ⟨a, c, l, rfl, hh, hL, _, _⟩ := open_objects (hval 0 22 v0 rfl rfl) h0
  obtain ⟨a2, c2, m, rfl, hh2, hL2, hc2, _⟩ := open_objects (hval 1 22 v1 rfl rfl) h1
  obtain ⟨n, rfl, rfl, rfl, hn⟩ := open_int Try.underlying3 (hval 2 3 v2 rfl rfl) h2
  have hm : m.length * 56 ≤ 140737488355328 := by
    rcases slice_datum h1 with e | ⟨elems, spare, rfl, e⟩
    · omega
    · have := sized_slice hsz (j := 1) (t := 22) (elems := elems) (spare := spare) rfl rfl Try.underlying22
      rw [bytes29] at this
      have hr := reachBytes_lt
      rw [e, Nat.add_mul] at this
      omega
  have hlt : ∀ x ∈ p0, x.block < W.heap.size := fun x hx => hW'.lt x (by simp [hx])
  have hlt1 : ∀ x ∈ p1, x.block < W.heap.size := fun x hx => hW'.lt x (by simp [hx])
  refine (storeOrder_any a c l a2 c2 m n W hh (by unfold maxLen at hL; omega) hh2 hm hc2).mono fun e W' ⟨he, hB⟩ => ?_
  subst he
  have ha := Below.trod Try.laidOut (by kernel_rfl) (of_decide_eq_true (by kernel_rfl)) h0 hB hlt
  have hb := Below.trod Try.laidOut (by kernel_rfl) (of_decide_eq_true (by kernel_rfl)) h1 hB hlt1
  refine ⟨_, rfl, _, _, _, [], p0 ++ (p1 ++ []), [], hW', ?_, ?_, rfl, hB.frame _, fun h => by cases h⟩
  · exact trodAll_mk1 (shut_bool Try.underlying4 true)
  · exact trodAll_mk3 ha hb (shut_int Try.underlying3 hn)

theorem storeOrder_holds : Rows.StoreOrderSaid :=
  OpenClaim.holds_of_wide 5 Try.f5 rfl rfl rfl rfl rfl rfl rfl ⟨rfl, rfl, rfl, rfl, rfl⟩ rfl rfl rfl rfl rfl (by kernel_rfl) Try.func5 (by kernel_rfl)
    (of_decide_eq_true (by kernel_rfl)) (by unfold Func.isWrapper; first | (rw [if_pos (by decide +kernel)]; kernel_rfl) | (rw [if_neg (by decide +kernel)]; exact ⟨rfl, rfl⟩))
    (fun os started H enc _ => storeOrder_lifted os started H enc)
#print axioms storeOrder_holds
end Go.Proofs.Ytehmlpkapjdhkaa
