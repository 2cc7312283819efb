/-
  Proved: forestaylaw.DiffLeads, called with any two lists of refs and any list of objects that can be read as data, where Go's own tables that the row lists hold what their text lays, returns true, and what came in reads behind the call as it read before (the given statement DiffLeadsCardSaid, no condition beside the row's own).
-/
import Derived.Test.YtehmlpkapjdhkaaGreatDoorCards
import Derived.Test.YtehmlpkapjdhkaaGreatDoorTie
import Derived.Test.YtehmlpkapjdhkaaGreatDoorMC25f
import Derived.Test.YtehmlpkapjdhkaaGreatDoorME12
import Derived.Carry
import Derived.Test.YtehmlpkapjdhkaaGreatDoorMV14
import Derived.Test.YtehmlpkapjdhkaaGreatDoorME
import Derived.Deep.DeepHandedRow
import Derived.Lib.LaidTab
import Derived.SevenTiedAt
namespace Go.Proofs.YtehmlpkapjdhkaaGreatDoor
open Go.ChangeShapes Go.WideShapes Go.ChangeAt Go.RowKit Go.Joins Go.Deep

theorem glob_shaped {w : World} (h : w.ShapedOpen Tryz.prog) : Glob w :=
  Go.Proofs.cell_of_shapedOpen_int (zero := #[.int .i64 0]) (t := 3) h (of_decide_eq_true (by kernel_rfl)) (by kernel_rfl) rfl (by kernel_rfl) (by kernel_rfl) Tryz.underlying3

set_option maxRecDepth 100000 in
theorem diffLeads_contract (H : Type) (enc : TypeId × Value → H) (W : World) (base : Nat) (args : Array Value) (ds gs : List (DataW H)) (before : List MemPlace)
    (hval0 : ∀ (j : Nat) t v, Tryz.f5.params[j]? = some t → args[j]? = some v → Value.okWide Tryz.prog W .any base t v)
    (hW : DataW.Whole enc Tryz.prog Tryz.f5.params.toList Rows.diffLeadsSpec.vars false W args.toList ds gs before) (hsh : W.ShapedOpen Tryz.prog) :
    Calls Tryz.prog 5 args W fun e W' => ∃ v, e = .returned v ∧ Rows.diffLeadsSpec.post enc Tryz.prog Tryz.f5 false true false false W args v W' := by
  have hval : ∀ (j : Nat) t v, Tryz.f5.params[j]? = some t → args[j]? = some v → Value.okWide Tryz.prog W .any base t v := hval0
  have hW' := hW
  obtain ⟨p, q, hA0, hV, rfl, hfz, hnd⟩ := hW
  have hA : DataW.TrodAll enc Tryz.prog W 0 (fun _ => true) true Tryz.f5.params.toList args.toList ds p := hA0
  rw [Tryz.params5] at hA hval
  obtain ⟨v0, v1, v2, d0, d1, d2, p0, p1, p2, rfl, rfl, rfl, h0, h1, h2⟩ := trodAll_three hA
  obtain ⟨rfl, rfl⟩ := trodVars_none hV
  clear hA0 hval0
  simp only [List.append_nil] at hW'
  obtain ⟨a, c, l, rfl, hh, hlc, hcm⟩ := open_refs (hval 0 34 v0 rfl rfl) h0
  obtain ⟨a2, c2, m, rfl, hh2, hlc2, hcm2⟩ := open_refs (hval 1 34 v1 rfl rfl) h1
  obtain ⟨ao, co, o, rfl, hho, hoL, hoc, _, hroom⟩ := open_objects2 (hval 2 25 v2 rfl rfl) h2
  have hlt0 : ∀ x ∈ p0, x.block < W.heap.size := fun x hx => hW'.lt x (by simp [hx])
  have hlt1 : ∀ x ∈ p1, x.block < W.heap.size := fun x hx => hW'.lt x (by simp [hx])
  have hlt2 : ∀ x ∈ p2, x.block < W.heap.size := fun x hx => hW'.lt x (by simp [hx])
  refine (diffLeads_any a c l a2 c2 m ao co o W (glob_shaped hsh) hh (by unfold maxLen at hcm; omega) hh2 (by unfold maxLen at hcm2; omega) hho hroom (by unfold maxLen at hoL; omega) hoc).mono fun e W' ⟨he, hB⟩ => ?_
  subst he
  have k0 := Below.trod Tryz.laidOut (by kernel_rfl) (of_decide_eq_true (by kernel_rfl)) h0 hB hlt0
  have k1 := Below.trod Tryz.laidOut (by kernel_rfl) (of_decide_eq_true (by kernel_rfl)) h1 hB hlt1
  have k2 := Below.trod Tryz.laidOut (by kernel_rfl) (of_decide_eq_true (by kernel_rfl)) h2 hB hlt2
  refine ⟨_, rfl, _, _, _, [], p0 ++ (p1 ++ p2), [], hW', ?_, ?_, rfl, hB.frame _, fun h => by cases h⟩
  · exact trodAll_mk1 (shut_bool Tryz.underlying4 true)
  · exact trodAll_mk3 k0 k1 k2

/-- a datum's cells. -/
def flatD : Nat → DataW Unit → List Value
  | 0, _ => []
  | _ + 1, .lit (.int k n) => [.int k n]
  | f + 1, .agg ds => ds.flatMap (flatD f)
  | _ + 1, _ => []

def putCells (cs : List Value) : Obj → Obj
  | .cells _ t frozen => .cells cs.toArray t frozen
  | o => o
/- the witness: a world in which the tables hold what their text lays. -/
set_option maxRecDepth 100000 in
theorem laid_met (os : Os) : laidMet Tryz.prog Rows.diffLeadsRow.laid (({ World.holding Tryz.prog os ⟨#[], #[], []⟩ with heap := ((((((World.holding Tryz.prog os ⟨#[], #[], []⟩).heap.modify 1 (putCells (flatD 4 Rows.laid_internal_strconv_uint64pow10))).modify 2 (putCells (flatD 4 Rows.laid_math_bits_deBruijn32tab))).modify 3 (putCells (flatD 4 Rows.laid_math_bits_deBruijn64tab))).modify 4 (putCells (flatD 4 Rows.laid_unicode_utf8_first))).modify 5 (putCells (flatD 4 Rows.laid_unicode_utf8_acceptRanges))) } : World).forCall (fun _ _ => 0) ⟨#[], #[.slice none 0 0, .slice none 0 0, .slice none 0 0], []⟩).memory :=
  laidMet_of_run' 8 (by kernel_rfl) (by kernel_rfl)
theorem laid_reads (os : Os) {H : Type} (enc : TypeId × Value → H) : ∃ places, DataW.whole enc Tryz.prog (({ World.holding Tryz.prog os ⟨#[], #[], []⟩ with heap := ((((((World.holding Tryz.prog os ⟨#[], #[], []⟩).heap.modify 1 (putCells (flatD 4 Rows.laid_internal_strconv_uint64pow10))).modify 2 (putCells (flatD 4 Rows.laid_math_bits_deBruijn32tab))).modify 3 (putCells (flatD 4 Rows.laid_math_bits_deBruijn64tab))).modify 4 (putCells (flatD 4 Rows.laid_unicode_utf8_first))).modify 5 (putCells (flatD 4 Rows.laid_unicode_utf8_acceptRanges))) } : World).forCall (fun _ _ => 0) ⟨#[], #[.slice none 0 0, .slice none 0 0, .slice none 0 0], []⟩).memory Tryz.f5.params.toList Rows.diffLeadsSpec.vars false #[Value.slice none 0 0, .slice none 0 0, .slice none 0 0].toList 8 = some ([.nil, .nil, .nil], [], places) :=
  ⟨[], by kernel_rfl⟩

set_option maxRecDepth 100000 in
theorem diffLeads_lifted (os : Os) (started : os.Started) (H : Type) (enc : TypeId × Value → H) (F : Stop.Interp) :
    ReturnsInHanded {} Tryz.checked os 5 .any ((OpenSpec.ofChange Rows.diffLeadsSpec).preRow enc Tryz.prog Tryz.f5 Rows.diffLeadsRow.domain false Rows.diffLeadsRow.laid) (((OpenSpec.ofChange Rows.diffLeadsSpec).at F).post enc Tryz.prog Tryz.f5 false true false false) := by
  obtain ⟨places, hx⟩ := laid_reads os enc
  refine returnsInHanded_of_row (C := Tryz.checked) (s := OpenSpec.ofChange Rows.diffLeadsSpec) Tryz.own started (by kernel_rfl) Tryz.func5
    (witness_row_at (enc := enc) (C := Tryz.checked) false ({ World.holding Tryz.prog os ⟨#[], #[], []⟩ with heap := ((((((World.holding Tryz.prog os ⟨#[], #[], []⟩).heap.modify 1 (putCells (flatD 4 Rows.laid_internal_strconv_uint64pow10))).modify 2 (putCells (flatD 4 Rows.laid_math_bits_deBruijn32tab))).modify 3 (putCells (flatD 4 Rows.laid_math_bits_deBruijn64tab))).modify 4 (putCells (flatD 4 Rows.laid_unicode_utf8_first))).modify 5 (putCells (flatD 4 Rows.laid_unicode_utf8_acceptRanges))) } : World) #[.slice none 0 0, .slice none 0 0, .slice none 0 0] rfl (by kernel_rfl) (by kernel_rfl) (by kernel_rfl)
      (OpenSpec.preRow_of_cond 8 hx (by kernel_rfl) (fun k hk => by cases hk) (by kernel_rfl) (laid_met os))) ?_
  intro W base args ds gs before hval hW _ _ _ _ hsh _
  exact diffLeads_contract H enc W base args ds gs before hval hW hsh

theorem diffLeads_said : Rows.DiffLeadsSaid :=
  OpenClaim.holds_of_cond 5 Tryz.f5 rfl rfl rfl rfl rfl rfl rfl ⟨rfl, rfl, rfl, rfl, rfl⟩ rfl rfl rfl rfl rfl (by kernel_rfl) Tryz.func5 diffLeads_facts
    (of_decide_eq_true (by kernel_rfl)) (by unfold Func.isWrapper; first | (rw [if_pos (by decide +kernel)]; kernel_rfl) | (rw [if_neg (by decide +kernel)]; exact ⟨rfl, rfl⟩))
    (fun os started H enc _ F => by rw [OpenClaim.pre_eq_preRow]; exact diffLeads_lifted os started H enc F)

theorem diffLeads_plain (f : FuncId) (fn : Func) (hf : Tryz.pinned.checked.prog.funcNamed Rows.diffLeadsRow.func = some f) (hfn : Tryz.pinned.checked.prog.funcs[f]? = some fn) :
    false = Tryz.pinned.checked.prog.looks [] ∧ ∀ (j : Nat) t, fn.params[j]? = some t → Tryz.pinned.checked.prog.wantsStandIn t = false := by
  obtain rfl : f = 5 := Option.some.inj ((show Tryz.prog.funcNamed Rows.diffLeadsRow.func = some 5 by kernel_rfl).symm.trans hf) |>.symm
  obtain rfl : fn = Tryz.f5 := (Option.some.inj (Tryz.func5.symm.trans hfn)).symm
  refine ⟨by kernel_rfl, fun j t ht => ?_⟩
  rw [Tryz.params5] at ht
  have hm : t = 34 ∨ t = 34 ∨ t = 25 := by simpa using Array.mem_of_getElem? ht
  rcases hm with rfl | rfl | rfl
  · exact (show Tryz.prog.wantsStandIn 34 = false by kernel_rfl)
  · exact (show Tryz.prog.wantsStandIn 34 = false by kernel_rfl)
  · exact (show Tryz.prog.wantsStandIn 25 = false by kernel_rfl)

theorem diffLeads_card : Rows.DiffLeadsCardSaid :=
  Claim7.holds_tied_plain_at .later [] _ _ _ _ diffLeads_said (fun _ h => by cases h) (by kernel_rfl) (fun _ h => by cases h) diffLeads_row_tie rfl ⟨rfl, rfl⟩ (by kernel_rfl) rfl diffLeads_plain (by kernel_rfl)
#print axioms diffLeads_card
end Go.Proofs.YtehmlpkapjdhkaaGreatDoor
