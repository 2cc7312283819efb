/-
  Proved: forestaylaw.ClusterSafe, called with any cluster, any push and any two numbers that can be read as data, where Go's own tables that the row lists hold what their text lays, returns true, and what came in reads behind the call as it read before (the given statement ClusterSafeCardSaid, no condition beside the row's own).
-/
import Derived.Test.YtehmlpkapjdhkaaGreatDoorCards
import Derived.Test.YtehmlpkapjdhkaaGreatDoorTie
import Derived.Test.YtehmlpkapjdhkaaGreatDoorMC20f
import Derived.Test.YtehmlpkapjdhkaaGreatDoorME12
import Derived.Carry
import Derived.Test.YtehmlpkapjdhkaaGreatDoorMV9
import Derived.Deep.DeepHandedRow
import Derived.Lib.LaidTab
import Derived.SevenTiedAt
namespace Go.Proofs.YtehmlpkapjdhkaaGreatDoor
open Go.ChangeShapes Go.WideShapes Go.ChangeAt Go.RowKit Go.Joins Go.Deep

theorem glob_shaped {w : World} (h : w.ShapedOpen Tryz.prog) : Glob w :=
  Go.Proofs.cell_of_shapedOpen_int (zero := #[.int .i64 0]) (t := 3) h (of_decide_eq_true (by kernel_rfl)) (by kernel_rfl) rfl (by kernel_rfl) (by kernel_rfl) Tryz.underlying3

theorem laid_rest {P : Program} {x : String × DataW Unit} {r : List (String × DataW Unit)} {w : World} (h : laidMet P (x :: r) w) : laidMet P r w := by
  obtain ⟨ps, ⟨g, t, cs, fuel, p, q, hg, ht, hv, hd, hq, rfl⟩, hn, hf⟩ := h
  exact ⟨q, hq, (List.nodup_append.1 hn).2.1, fun b off hb => hf b off (List.mem_append_right _ hb)⟩
theorem tab_laid {W : World} (h : laidMetH Tryz.prog Rows.clusterSafeRow.laid W) : Tab W := by
  have h1 : laidMet Tryz.prog Rows.clusterSafeRow.laid W := h
  exact Eq.mp (by kernel_rfl) (Lib.tabIs_of_head (k := .u64) (zs := Lib.pow10Tab) (g := 1) (t := 293) (e := 249) (n := 20) (by kernel_rfl) (by kernel_rfl) Tryz.underlying293 Tryz.underlying249 (by kernel_rfl) (by kernel_rfl) (laid_rest (laid_rest h1)))

set_option maxRecDepth 100000 in
theorem clusterSafe_contract (H : Type) (enc : TypeId × Value → H) (W : World) (base : Nat) (args : Array Value) (ds gs : List (DataW H)) (before : List MemPlace)
    (hval0 : ∀ (j : Nat) t v, Tryz.f3.params[j]? = some t → args[j]? = some v → Value.okWide Tryz.prog W .any base t v)
    (hW : DataW.Whole enc Tryz.prog Tryz.f3.params.toList Rows.clusterSafeSpec.vars false W args.toList ds gs before) (htab : Tab W) (hsh : W.ShapedOpen Tryz.prog) :
    Calls Tryz.prog 3 args W fun e W' => ∃ v, e = .returned v ∧ Rows.clusterSafeSpec.post enc Tryz.prog Tryz.f3 false true false false W args v W' := by
  have hval : ∀ (j : Nat) t v, Tryz.f3.params[j]? = some t → args[j]? = some v → Value.okWide Tryz.prog W .any base t v := hval0
  have hW' := hW
  obtain ⟨p, q, hA0, hV, rfl, hfz, hnd⟩ := hW
  have hA : DataW.TrodAll enc Tryz.prog W 0 (fun _ => true) true Tryz.f3.params.toList args.toList ds p := hA0
  rw [Tryz.params3] at hA hval
  obtain ⟨v0, v1, v2, v3, d0, d1, d2, d3, p0, p1, p2, p3, rfl, rfl, rfl, h0, h1, h2, h3⟩ := trodAll_four hA
  obtain ⟨rfl, rfl⟩ := trodVars_none hV
  clear hA0 hval0
  simp only [List.append_nil] at hW'
  obtain ⟨a, c, l, rfl, hl, hlc, hcm⟩ := open_cluster (hval 0 24 v0 rfl rfl) h0
  obtain ⟨am, cm, m, au, cu, us, f, rfl, hm, hml, hmc, hmR, hu, hul⟩ := open_push (hval 1 28 v1 rfl rfl) h1
  obtain ⟨up, rfl⟩ := okWide_int Tryz.underlying3 (hval 2 3 v2 rfl rfl)
  obtain ⟨late, rfl⟩ := okWide_int Tryz.underlying3 (hval 3 3 v3 rfl rfl)
  have hlt0 : ∀ x ∈ p0, x.block < W.heap.size := fun x hx => hW'.lt x (by simp [hx])
  have hlt1 : ∀ x ∈ p1, x.block < W.heap.size := fun x hx => hW'.lt x (by simp [hx])
  have hlt2 : ∀ x ∈ p2, x.block < W.heap.size := fun x hx => hW'.lt x (by simp [hx])
  have hlt3 : ∀ x ∈ p3, x.block < W.heap.size := fun x hx => hW'.lt x (by simp [hx])
  refine (clusterSafe_any a c l am cm m au cu us f up late W (glob_shaped hsh) htab hl hlc (by unfold maxLen at hcm; omega) hm (by unfold maxLen at hml; omega) hu (by unfold maxLen at hul; omega)).mono fun e W' ⟨he, hB⟩ => ?_
  subst he
  have k0 := Below.trod Tryz.laidOut (by kernel_rfl) (of_decide_eq_true (by kernel_rfl)) h0 hB hlt0
  have k1 := Below.trod Tryz.laidOut (by kernel_rfl) (of_decide_eq_true (by kernel_rfl)) h1 hB hlt1
  have k2 := Below.trod Tryz.laidOut (by kernel_rfl) (of_decide_eq_true (by kernel_rfl)) h2 hB hlt2
  have k3 := Below.trod Tryz.laidOut (by kernel_rfl) (of_decide_eq_true (by kernel_rfl)) h3 hB hlt3
  refine ⟨_, rfl, _, _, _, [], p0 ++ (p1 ++ (p2 ++ p3)), [], hW', ?_, ?_, rfl, hB.frame _, fun h => by cases h⟩
  · exact trodAll_mk1 (shut_bool Tryz.underlying4 true)
  · exact trodAll_mk4 k0 k1 k2 k3

/-- a datum's cells. -/
def flatD : Nat → DataW Unit → List Value
  | 0, _ => []
  | _ + 1, .lit (.int k n) => [.int k n]
  | f + 1, .agg ds => ds.flatMap (flatD f)
  | _ + 1, _ => []

def putCells (cs : List Value) : Obj → Obj
  | .cells _ t frozen => .cells cs.toArray t frozen
  | o => o
/- the witness: a world in which the tables hold what their text lays. -/
set_option maxRecDepth 100000 in
theorem laid_met (os : Os) : laidMet Tryz.prog Rows.clusterSafeRow.laid (({ World.holding Tryz.prog os ⟨#[], #[], []⟩ with heap := ((((((World.holding Tryz.prog os ⟨#[], #[], []⟩).heap.modify 1 (putCells (flatD 4 Rows.laid_internal_strconv_uint64pow10))).modify 2 (putCells (flatD 4 Rows.laid_math_bits_deBruijn32tab))).modify 3 (putCells (flatD 4 Rows.laid_math_bits_deBruijn64tab))).modify 4 (putCells (flatD 4 Rows.laid_unicode_utf8_first))).modify 5 (putCells (flatD 4 Rows.laid_unicode_utf8_acceptRanges))) } : World).forCall (fun _ _ => 0) ⟨#[], #[.agg #[.slice none 0 0], .agg #[.slice none 0 0, .slice none 0 0, .bool false], .int .i64 0, .int .i64 0], []⟩).memory :=
  laidMet_of_run' 8 (by kernel_rfl) (by kernel_rfl)
theorem laid_reads (os : Os) {H : Type} (enc : TypeId × Value → H) : ∃ places, DataW.whole enc Tryz.prog (({ World.holding Tryz.prog os ⟨#[], #[], []⟩ with heap := ((((((World.holding Tryz.prog os ⟨#[], #[], []⟩).heap.modify 1 (putCells (flatD 4 Rows.laid_internal_strconv_uint64pow10))).modify 2 (putCells (flatD 4 Rows.laid_math_bits_deBruijn32tab))).modify 3 (putCells (flatD 4 Rows.laid_math_bits_deBruijn64tab))).modify 4 (putCells (flatD 4 Rows.laid_unicode_utf8_first))).modify 5 (putCells (flatD 4 Rows.laid_unicode_utf8_acceptRanges))) } : World).forCall (fun _ _ => 0) ⟨#[], #[.agg #[.slice none 0 0], .agg #[.slice none 0 0, .slice none 0 0, .bool false], .int .i64 0, .int .i64 0], []⟩).memory Tryz.f3.params.toList Rows.clusterSafeSpec.vars false #[Value.agg #[.slice none 0 0], .agg #[.slice none 0 0, .slice none 0 0, .bool false], .int .i64 0, .int .i64 0].toList 8 = some ([.agg [.nil], .agg [.nil, .nil, .lit (.bool false)], .lit (.int .i64 0), .lit (.int .i64 0)], [], places) :=
  ⟨[], by kernel_rfl⟩

set_option maxRecDepth 100000 in
theorem clusterSafe_lifted (os : Os) (started : os.Started) (H : Type) (enc : TypeId × Value → H) (F : Stop.Interp) :
    ReturnsInHanded {} Tryz.checked os 3 .any ((OpenSpec.ofChange Rows.clusterSafeSpec).preRow enc Tryz.prog Tryz.f3 Rows.clusterSafeRow.domain false Rows.clusterSafeRow.laid) (((OpenSpec.ofChange Rows.clusterSafeSpec).at F).post enc Tryz.prog Tryz.f3 false true false false) := by
  obtain ⟨places, hx⟩ := laid_reads os enc
  refine returnsInHanded_of_row (C := Tryz.checked) (s := OpenSpec.ofChange Rows.clusterSafeSpec) Tryz.own started (by kernel_rfl) Tryz.func3
    (witness_row_at (enc := enc) (C := Tryz.checked) false ({ World.holding Tryz.prog os ⟨#[], #[], []⟩ with heap := ((((((World.holding Tryz.prog os ⟨#[], #[], []⟩).heap.modify 1 (putCells (flatD 4 Rows.laid_internal_strconv_uint64pow10))).modify 2 (putCells (flatD 4 Rows.laid_math_bits_deBruijn32tab))).modify 3 (putCells (flatD 4 Rows.laid_math_bits_deBruijn64tab))).modify 4 (putCells (flatD 4 Rows.laid_unicode_utf8_first))).modify 5 (putCells (flatD 4 Rows.laid_unicode_utf8_acceptRanges))) } : World) #[.agg #[.slice none 0 0], .agg #[.slice none 0 0, .slice none 0 0, .bool false], .int .i64 0, .int .i64 0] rfl (by kernel_rfl) (by kernel_rfl) (by kernel_rfl)
      (OpenSpec.preRow_of_cond 8 hx (by kernel_rfl) (fun k hk => by cases hk) (by kernel_rfl) (laid_met os))) ?_
  intro W base args ds gs before hval hW _ _ _ hlaid hsh _
  exact clusterSafe_contract H enc W base args ds gs before hval hW (tab_laid hlaid) hsh

theorem clusterSafe_said : Rows.ClusterSafeSaid :=
  OpenClaim.holds_of_cond 3 Tryz.f3 rfl rfl rfl rfl rfl rfl rfl ⟨rfl, rfl, rfl, rfl, rfl⟩ rfl rfl rfl rfl rfl (by kernel_rfl) Tryz.func3 clusterSafe_facts
    (of_decide_eq_true (by kernel_rfl)) (by unfold Func.isWrapper; first | (rw [if_pos (by decide +kernel)]; kernel_rfl) | (rw [if_neg (by decide +kernel)]; exact ⟨rfl, rfl⟩))
    (fun os started H enc _ F => by rw [OpenClaim.pre_eq_preRow]; exact clusterSafe_lifted os started H enc F)

theorem clusterSafe_plain (f : FuncId) (fn : Func) (hf : Tryz.pinned.checked.prog.funcNamed Rows.clusterSafeRow.func = some f) (hfn : Tryz.pinned.checked.prog.funcs[f]? = some fn) :
    false = Tryz.pinned.checked.prog.looks [] ∧ ∀ (j : Nat) t, fn.params[j]? = some t → Tryz.pinned.checked.prog.wantsStandIn t = false := by
  obtain rfl : f = 3 := Option.some.inj ((show Tryz.prog.funcNamed Rows.clusterSafeRow.func = some 3 by kernel_rfl).symm.trans hf) |>.symm
  obtain rfl : fn = Tryz.f3 := (Option.some.inj (Tryz.func3.symm.trans hfn)).symm
  refine ⟨by kernel_rfl, fun j t ht => ?_⟩
  rw [Tryz.params3] at ht
  have hm : t = 24 ∨ t = 28 ∨ t = 3 ∨ t = 3 := by simpa using Array.mem_of_getElem? ht
  rcases hm with rfl | rfl | rfl | rfl
  · exact (show Tryz.prog.wantsStandIn 24 = false by kernel_rfl)
  · exact (show Tryz.prog.wantsStandIn 28 = false by kernel_rfl)
  · exact (show Tryz.prog.wantsStandIn 3 = false by kernel_rfl)
  · exact (show Tryz.prog.wantsStandIn 3 = false by kernel_rfl)

theorem clusterSafe_card : Rows.ClusterSafeCardSaid :=
  Claim7.holds_tied_plain_at .later [] _ _ _ _ clusterSafe_said (fun _ h => by cases h) (by kernel_rfl) (fun _ h => by cases h) clusterSafe_row_tie rfl ⟨rfl, rfl⟩ (by kernel_rfl) rfl clusterSafe_plain (by kernel_rfl)
#print axioms clusterSafe_card
end Go.Proofs.YtehmlpkapjdhkaaGreatDoor
