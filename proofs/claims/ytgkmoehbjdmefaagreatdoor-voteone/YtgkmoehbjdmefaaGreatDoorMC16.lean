/-
  Proved: forestaylaw.VoteOne, called with any list of strings, any number and any string that can be read as data, where Go's own tables that the row lists hold what their text lays, returns true, and what came in reads behind the call as it read before (the given statement VoteOneCardSaid, no condition beside the row's own).
-/
import Derived.Test.YtgkmoehbjdmefaaGreatDoorCards
import Derived.Test.YtgkmoehbjdmefaaGreatDoorTie
import Derived.Test.YtgkmoehbjdmefaaGreatDoorME
import Derived.Test.YtgkmoehbjdmefaaGreatDoorMV5
import Derived.Test.YtgkmoehbjdmefaaGreatDoorME1
import Derived.Deep.DeepHandedRow
import Derived.Lib.LaidTab
import Derived.SevenTiedAt
namespace Go.Proofs.YtgkmoehbjdmefaaGreatDoor
open Go.ChangeShapes Go.WideShapes Go.ChangeAt Go.RowKit Go.Joins Go.Deep

theorem glob_shaped {w : World} (h : w.ShapedOpen Tryz.prog) : Glob w :=
  Go.Proofs.cell_of_shapedOpen_int (zero := #[.int .i64 0]) (t := 3) h (of_decide_eq_true (by kernel_rfl)) (by kernel_rfl) rfl (by kernel_rfl) (by kernel_rfl) Tryz.underlying3

theorem laid_rest {P : Program} {x : String × DataW Unit} {r : List (String × DataW Unit)} {w : World} (h : laidMet P (x :: r) w) : laidMet P r w := by
  obtain ⟨ps, ⟨g, t, cs, fuel, p, q, hg, ht, hv, hd, hq, rfl⟩, hn, hf⟩ := h
  exact ⟨q, hq, (List.nodup_append.1 hn).2.1, fun b off hb => hf b off (List.mem_append_right _ hb)⟩
theorem tab_laid {W : World} (h : laidMetH Tryz.prog Rows.voteOneRow.laid W) : Tab W := by
  have h1 : laidMet Tryz.prog Rows.voteOneRow.laid W := h
  exact Eq.mp (by kernel_rfl) (Lib.tabIs_of_head (k := .u64) (zs := Lib.pow10Tab) (g := 1) (t := 215) (e := 152) (n := 20) (by kernel_rfl) (by kernel_rfl) Tryz.underlying215 Tryz.underlying152 (by kernel_rfl) (by kernel_rfl) (laid_rest (laid_rest h1)))

set_option maxRecDepth 100000 in
theorem voteOne_contract (H : Type) (enc : TypeId × Value → H) (W : World) (base : Nat) (args : Array Value) (ds gs : List (DataW H)) (before : List MemPlace)
    (hval0 : ∀ (j : Nat) t v, Tryz.f5.params[j]? = some t → args[j]? = some v → Value.okWide Tryz.prog W .any base t v)
    (hW : DataW.Whole enc Tryz.prog Tryz.f5.params.toList Rows.voteOneSpec.vars false W args.toList ds gs before) (htab : Tab W) (hsh : W.ShapedOpen Tryz.prog) :
    Calls Tryz.prog 5 args W fun e W' => ∃ v, e = .returned v ∧ Rows.voteOneSpec.post enc Tryz.prog Tryz.f5 false true false false W args v W' := by
  have hval : ∀ (j : Nat) t v, Tryz.f5.params[j]? = some t → args[j]? = some v → Value.okWide Tryz.prog W .any base t v := hval0
  have hW' := hW
  obtain ⟨p, q, hA0, hV, rfl, hfz, hnd⟩ := hW
  have hA : DataW.TrodAll enc Tryz.prog W 0 (fun _ => true) true Tryz.f5.params.toList args.toList ds p := hA0
  rw [Tryz.params5] at hA hval
  obtain ⟨v0, v1, v2, d0, d1, d2, p0, p1, p2, rfl, rfl, rfl, h0, h1, h2⟩ := trodAll_three hA
  obtain ⟨rfl, rfl⟩ := trodVars_none hV
  clear hA0 hval0
  simp only [List.append_nil] at hW'
  obtain ⟨al, cc, l, rfl, hl⟩ := open_texts (hval 0 46 v0 rfl rfl) h0
  obtain ⟨n, rfl⟩ := okWide_int Tryz.underlying3 (hval 1 3 v1 rfl rfl)
  obtain ⟨s, rfl⟩ := okWide_string Tryz.underlying9 (hval 2 9 v2 rfl rfl)
  have hlt0 : ∀ x ∈ p0, x.block < W.heap.size := fun x hx => hW'.lt x (by simp [hx])
  have hlt1 : ∀ x ∈ p1, x.block < W.heap.size := fun x hx => hW'.lt x (by simp [hx])
  have hlt2 : ∀ x ∈ p2, x.block < W.heap.size := fun x hx => hW'.lt x (by simp [hx])
  refine (voteOne_any al cc l n s W (glob_shaped hsh) htab hl).mono fun e W' ⟨he, hB⟩ => ?_
  subst he
  have k0 := Below.trod Tryz.laidOut (by kernel_rfl) (of_decide_eq_true (by kernel_rfl)) h0 hB hlt0
  have k1 := Below.trod Tryz.laidOut (by kernel_rfl) (of_decide_eq_true (by kernel_rfl)) h1 hB hlt1
  have k2 := Below.trod Tryz.laidOut (by kernel_rfl) (of_decide_eq_true (by kernel_rfl)) h2 hB hlt2
  refine ⟨_, rfl, _, _, _, [], p0 ++ (p1 ++ p2), [], hW', ?_, ?_, rfl, hB.frame _, fun h => by cases h⟩
  · exact trodAll_mk1 (shut_bool Tryz.underlying4 true)
  · exact trodAll_mk3 k0 k1 k2

/-- a datum's cells. -/
def flatD : Nat → DataW Unit → List Value
  | 0, _ => []
  | _ + 1, .lit (.int k n) => [.int k n]
  | f + 1, .agg ds => ds.flatMap (flatD f)
  | _ + 1, _ => []

def putCells (cs : List Value) : Obj → Obj
  | .cells _ t frozen => .cells cs.toArray t frozen
  | o => o
/- the witness: a world in which the tables hold what their text lays. -/
set_option maxRecDepth 100000 in
theorem laid_met (os : Os) : laidMet Tryz.prog Rows.voteOneRow.laid (({ World.holding Tryz.prog os ⟨#[], #[], []⟩ with heap := ((((((World.holding Tryz.prog os ⟨#[], #[], []⟩).heap.modify 1 (putCells (flatD 4 Rows.laid_internal_strconv_uint64pow10))).modify 2 (putCells (flatD 4 Rows.laid_math_bits_deBruijn32tab))).modify 3 (putCells (flatD 4 Rows.laid_math_bits_deBruijn64tab))).modify 4 (putCells (flatD 4 Rows.laid_unicode_utf8_first))).modify 5 (putCells (flatD 4 Rows.laid_unicode_utf8_acceptRanges))) } : World).forCall (fun _ _ => 0) ⟨#[], #[.slice none 0 0, .int .i64 0, .string { data := #[] }], []⟩).memory :=
  laidMet_of_run' 8 (by kernel_rfl) (by kernel_rfl)
theorem laid_reads (os : Os) {H : Type} (enc : TypeId × Value → H) : ∃ places, DataW.whole enc Tryz.prog (({ World.holding Tryz.prog os ⟨#[], #[], []⟩ with heap := ((((((World.holding Tryz.prog os ⟨#[], #[], []⟩).heap.modify 1 (putCells (flatD 4 Rows.laid_internal_strconv_uint64pow10))).modify 2 (putCells (flatD 4 Rows.laid_math_bits_deBruijn32tab))).modify 3 (putCells (flatD 4 Rows.laid_math_bits_deBruijn64tab))).modify 4 (putCells (flatD 4 Rows.laid_unicode_utf8_first))).modify 5 (putCells (flatD 4 Rows.laid_unicode_utf8_acceptRanges))) } : World).forCall (fun _ _ => 0) ⟨#[], #[.slice none 0 0, .int .i64 0, .string { data := #[] }], []⟩).memory Tryz.f5.params.toList Rows.voteOneSpec.vars false #[Value.slice none 0 0, .int .i64 0, .string { data := #[] }].toList 8 = some ([.nil, .lit (.int .i64 0), .lit (.string [])], [], places) :=
  ⟨[], by kernel_rfl⟩

set_option maxRecDepth 100000 in
theorem voteOne_lifted (os : Os) (started : os.Started) (H : Type) (enc : TypeId × Value → H) (F : Stop.Interp) :
    ReturnsInHanded {} Tryz.checked os 5 .any ((OpenSpec.ofChange Rows.voteOneSpec).preRow enc Tryz.prog Tryz.f5 Rows.voteOneRow.domain false Rows.voteOneRow.laid) (((OpenSpec.ofChange Rows.voteOneSpec).at F).post enc Tryz.prog Tryz.f5 false true false false) := by
  obtain ⟨places, hx⟩ := laid_reads os enc
  refine returnsInHanded_of_row (C := Tryz.checked) (s := OpenSpec.ofChange Rows.voteOneSpec) Tryz.own started (by kernel_rfl) Tryz.func5
    (witness_row_at (enc := enc) (C := Tryz.checked) false ({ World.holding Tryz.prog os ⟨#[], #[], []⟩ with heap := ((((((World.holding Tryz.prog os ⟨#[], #[], []⟩).heap.modify 1 (putCells (flatD 4 Rows.laid_internal_strconv_uint64pow10))).modify 2 (putCells (flatD 4 Rows.laid_math_bits_deBruijn32tab))).modify 3 (putCells (flatD 4 Rows.laid_math_bits_deBruijn64tab))).modify 4 (putCells (flatD 4 Rows.laid_unicode_utf8_first))).modify 5 (putCells (flatD 4 Rows.laid_unicode_utf8_acceptRanges))) } : World) #[.slice none 0 0, .int .i64 0, .string { data := #[] }] rfl (by kernel_rfl) (by kernel_rfl) (by kernel_rfl)
      (OpenSpec.preRow_of_cond 8 hx (by kernel_rfl) (fun k hk => by cases hk) (by kernel_rfl) (laid_met os))) ?_
  intro W base args ds gs before hval hW _ _ _ hlaid hsh _
  exact voteOne_contract H enc W base args ds gs before hval hW (tab_laid hlaid) hsh

theorem voteOne_said : Rows.VoteOneSaid :=
  OpenClaim.holds_of_cond 5 Tryz.f5 rfl rfl rfl rfl rfl rfl rfl ⟨rfl, rfl, rfl, rfl, rfl⟩ rfl rfl rfl rfl rfl (by kernel_rfl) Tryz.func5 (by kernel_rfl)
    (of_decide_eq_true (by kernel_rfl)) (by unfold Func.isWrapper; first | (rw [if_pos (by decide +kernel)]; kernel_rfl) | (rw [if_neg (by decide +kernel)]; exact ⟨rfl, rfl⟩))
    (fun os started H enc _ F => by rw [OpenClaim.pre_eq_preRow]; exact voteOne_lifted os started H enc F)

theorem voteOne_plain (f : FuncId) (fn : Func) (hf : Tryz.pinned.checked.prog.funcNamed Rows.voteOneRow.func = some f) (hfn : Tryz.pinned.checked.prog.funcs[f]? = some fn) :
    false = Tryz.pinned.checked.prog.looks [] ∧ ∀ (j : Nat) t, fn.params[j]? = some t → Tryz.pinned.checked.prog.wantsStandIn t = false := by
  obtain rfl : f = 5 := Option.some.inj ((show Tryz.prog.funcNamed Rows.voteOneRow.func = some 5 by kernel_rfl).symm.trans hf) |>.symm
  obtain rfl : fn = Tryz.f5 := (Option.some.inj (Tryz.func5.symm.trans hfn)).symm
  refine ⟨by kernel_rfl, fun j t ht => ?_⟩
  rw [Tryz.params5] at ht
  have hm : t = 46 ∨ t = 3 ∨ t = 9 := by simpa using Array.mem_of_getElem? ht
  rcases hm with rfl | rfl | rfl
  · exact (show Tryz.prog.wantsStandIn 46 = false by kernel_rfl)
  · exact (show Tryz.prog.wantsStandIn 3 = false by kernel_rfl)
  · exact (show Tryz.prog.wantsStandIn 9 = false by kernel_rfl)

theorem voteOne_card : Rows.VoteOneCardSaid :=
  Claim7.holds_tied_plain_at .later [] _ _ _ _ voteOne_said (fun _ h => by cases h) (by kernel_rfl) (fun _ h => by cases h) voteOne_row_tie rfl ⟨rfl, rfl⟩ (by kernel_rfl) rfl voteOne_plain (by kernel_rfl)
#print axioms voteOne_card
end Go.Proofs.YtgkmoehbjdmefaaGreatDoor
