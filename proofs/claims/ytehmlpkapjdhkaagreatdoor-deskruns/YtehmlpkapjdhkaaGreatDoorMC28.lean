/-
  Proved: forestaylaw.DeskRuns, called with any list of acts that can be read as data, where Go's own tables that the row lists hold what their text lays, returns true, and what came in reads behind the call as it read before (the given statement DeskRunsCardSaid, no condition beside the row's own).
-/
import Derived.Test.YtehmlpkapjdhkaaGreatDoorCards
import Derived.Test.YtehmlpkapjdhkaaGreatDoorTie
import Derived.Test.YtehmlpkapjdhkaaGreatDoorMC28f
import Derived.Test.YtehmlpkapjdhkaaGreatDoorMQ
import Derived.Deep.DeepHandedRow
import Derived.SevenTiedAt
namespace Go.Proofs.YtehmlpkapjdhkaaGreatDoor
set_option maxHeartbeats 16000000
open Go.ChangeShapes Go.WideShapes Go.ChangeAt Go.RowKit Go.Joins Go.Deep
theorem We{w:World}(h:w.ShapedOpen Tryz.prog):xr w:=
 Go.Proofs.cell_of_shapedOpen_int (zero:=#[.int .i64 0]) (t:=3) h (of_decide_eq_true (by kernel_rfl)) (by kernel_rfl) rfl (by kernel_rfl) (by kernel_rfl) Tryz.underlying3
theorem ag{P:Program}{x:String×DataW Unit}{r:List (String×DataW Unit)}{w:World}(h:laidMet P (x::r) w):laidMet P r w:=by
 obtain⟨ps,⟨g,t,cs,fuel,p,q,hg,ht,hv,hd,hq,rfl⟩,hn,hf⟩:=h
 exact⟨q,hq,(List.nodup_append.1 hn).2.1,fun b off hb=>hf b off (List.mem_append_right _ hb)⟩
theorem LK{W:World}(h:laidMetH Tryz.prog Rows.deskRunsRow.laid W):bP W:=by
 have h1:laidMet Tryz.prog Rows.deskRunsRow.laid W:=h
 exact Eq.mp (by kernel_rfl) (Lib.tabIs_of_head (k:=.u64) (zs:=Lib.pow10Tab) (g:=1) (t:=293) (e:=249) (n:=20) (by kernel_rfl) (by kernel_rfl) Tryz.underlying293 Tryz.underlying249 (by kernel_rfl) (by kernel_rfl) (ag (ag h1)))
set_option maxRecDepth 100000 in
theorem jk(H:Type)(enc:TypeId×Value→H)(W:World)(base:Nat)(args:Array Value)(ds gs:List (DataW H))(Yk:List MemPlace)
  (hval0: ∀(j:Nat) t v,Tryz.f9.params[j]? =some t→args[j]? =some v→Value.okWide Tryz.prog W .any base t v)
  (hW:DataW.Whole enc Tryz.prog Tryz.f9.params.toList Rows.deskRunsSpec.vars false W args.toList ds gs Yk) (htab:bP W) (hsh:W.ShapedOpen Tryz.prog):
  Calls Tryz.prog 9 args W fun e W'=>∃v,e= .returned v∧Rows.deskRunsSpec.post enc Tryz.prog Tryz.f9 false true false false W args v W':=by
 have K9: ∀(j:Nat) t v,Tryz.f9.params[j]? =some t→args[j]? =some v→Value.okWide Tryz.prog W .any base t v:=hval0
 have hW':=hW
 obtain⟨p,q,hA0,hV,rfl,hfz,hnd⟩:=hW
 have hA:DataW.TrodAll enc Tryz.prog W 0 (fun _=>true) true Tryz.f9.params.toList args.toList ds p:=hA0
 rw[Tryz.params9]at hA K9
 obtain⟨v0,d0,rfl,rfl,h0⟩:=trodAll_one hA
 obtain⟨p0,ka⟩: ∃p0,p0=p:=⟨_,rfl⟩
 rw[←ka]at h0 hW'
 obtain⟨rfl,rfl⟩:=trodVars_none hV
 clear hA0 hval0
 simp only[List.append_nil]at hW'
 obtain⟨a,c,l,rfl,hh,_,_⟩:=RQ (K9 0 71 v0 rfl rfl) h0
 have zH0: ∀x∈p0,x.block<W.heap.size:=fun x hx=>hW'.lt x (by simp[hx])
 refine(YY a c l W (We hsh) htab hh).mono fun e W' ⟨he,hB⟩=>?_
 subst he
 have k0:=Below.trod Tryz.laidOut (by kernel_rfl) (of_decide_eq_true (by kernel_rfl)) h0 hB zH0
 refine⟨_,rfl,_,_,_,[],p0,[],hW',?_,?_,rfl,hB.frame _,fun h=>by cases h⟩
 ·exact trodAll_mk1 (shut_bool Tryz.underlying4 true)
 ·exact trodAll_mk1 k0
def rG:Nat→DataW Unit→List Value
 |0,_=>[]
 |_+1,.lit (.int k n)=>[.int k n]
 |f+1,.agg ds=>ds.flatMap (rG f)
 |_+1,_=>[]
def putCells(cs:List Value):Obj→Obj
 | .cells _ t frozen=>.cells cs.toArray t frozen
 |o=>o
/- the witness: a world in which the tables hold what their text lays. -/
set_option maxRecDepth 100000 in
theorem Pq(os:Os):laidMet Tryz.prog Rows.deskRunsRow.laid (({World.holding Tryz.prog os ⟨#[],#[],[]⟩with heap:=((((((World.holding Tryz.prog os ⟨#[],#[],[]⟩).heap.modify 1 (putCells (rG 4 Rows.laid_internal_strconv_uint64pow10))).modify 2 (putCells (rG 4 Rows.laid_math_bits_deBruijn32tab))).modify 3 (putCells (rG 4 Rows.laid_math_bits_deBruijn64tab))).modify 4 (putCells (rG 4 Rows.laid_unicode_utf8_first))).modify 5 (putCells (rG 4 Rows.laid_unicode_utf8_acceptRanges)))}:World).forCall (fun _ _=>0) ⟨#[],#[.slice none 0 0],[]⟩).memory:=
 laidMet_of_run' 8 (by kernel_rfl) (by kernel_rfl)
theorem Ud(os:Os){H:Type}(enc:TypeId×Value→H): ∃places,DataW.whole enc Tryz.prog (({World.holding Tryz.prog os ⟨#[],#[],[]⟩with heap:=((((((World.holding Tryz.prog os ⟨#[],#[],[]⟩).heap.modify 1 (putCells (rG 4 Rows.laid_internal_strconv_uint64pow10))).modify 2 (putCells (rG 4 Rows.laid_math_bits_deBruijn32tab))).modify 3 (putCells (rG 4 Rows.laid_math_bits_deBruijn64tab))).modify 4 (putCells (rG 4 Rows.laid_unicode_utf8_first))).modify 5 (putCells (rG 4 Rows.laid_unicode_utf8_acceptRanges)))}:World).forCall (fun _ _=>0) ⟨#[],#[.slice none 0 0],[]⟩).memory Tryz.f9.params.toList Rows.deskRunsSpec.vars false #[Value.slice none 0 0].toList 8=some ([.nil],[],places):=
 ⟨[],by kernel_rfl⟩
set_option maxRecDepth 100000 in
theorem fw(os:Os)(started:os.Started)(H:Type)(enc:TypeId×Value→H)(F:Stop.Interp):
  ReturnsInHanded {} Tryz.checked os 9 .any ((OpenSpec.ofChange Rows.deskRunsSpec).preRow enc Tryz.prog Tryz.f9 Rows.deskRunsRow.domain false Rows.deskRunsRow.laid) (((OpenSpec.ofChange Rows.deskRunsSpec).at F).post enc Tryz.prog Tryz.f9 false true false false):=by
 obtain⟨places,hx⟩:=Ud os enc
 refine returnsInHanded_of_row (C:=Tryz.checked) (s:=OpenSpec.ofChange Rows.deskRunsSpec) Tryz.own started (by kernel_rfl) Tryz.func9
  (witness_row_at (enc:=enc) (C:=Tryz.checked) false ({World.holding Tryz.prog os ⟨#[],#[],[]⟩with heap:=((((((World.holding Tryz.prog os ⟨#[],#[],[]⟩).heap.modify 1 (putCells (rG 4 Rows.laid_internal_strconv_uint64pow10))).modify 2 (putCells (rG 4 Rows.laid_math_bits_deBruijn32tab))).modify 3 (putCells (rG 4 Rows.laid_math_bits_deBruijn64tab))).modify 4 (putCells (rG 4 Rows.laid_unicode_utf8_first))).modify 5 (putCells (rG 4 Rows.laid_unicode_utf8_acceptRanges)))}:World) #[.slice none 0 0] rfl (by kernel_rfl) (by kernel_rfl) (by kernel_rfl)
   (OpenSpec.preRow_of_cond 8 hx (by kernel_rfl) (fun k hk=>by cases hk) (by kernel_rfl) (Pq os))) ?_
 intro W base args ds gs Yk K9 hW _ _ _ Av hsh _
 exact jk H enc W base args ds gs Yk K9 hW (LK Av) hsh
theorem aF:Rows.DeskRunsSaid:=
 OpenClaim.holds_of_cond 9 Tryz.f9 rfl rfl rfl rfl rfl rfl rfl ⟨rfl,rfl,rfl,rfl,rfl⟩ rfl rfl rfl rfl rfl (by kernel_rfl) Tryz.func9 bD
  (of_decide_eq_true (by kernel_rfl)) (by unfold Func.isWrapper;first|(rw[if_pos (by decide +kernel)];kernel_rfl)|(rw[if_neg (by decide +kernel)];exact⟨rfl,rfl⟩))
  (fun os started H enc _ F=>by rw[OpenClaim.pre_eq_preRow];exact fw os started H enc F)
theorem cX(f:FuncId)(fn:Func)(hf:Tryz.pinned.checked.prog.funcNamed Rows.deskRunsRow.func=some f)(hfn:Tryz.pinned.checked.prog.funcs[f]? =some fn):
  false=Tryz.pinned.checked.prog.looks []∧∀(j:Nat) t,fn.params[j]? =some t→Tryz.pinned.checked.prog.wantsStandIn t=false:=by
 obtain rfl:f=9:=Option.some.inj ((show Tryz.prog.funcNamed Rows.deskRunsRow.func=some 9 by kernel_rfl).symm.trans hf) |>.symm
 obtain rfl:fn=Tryz.f9:=(Option.some.inj (Tryz.func9.symm.trans hfn)).symm
 refine⟨by kernel_rfl,fun j t ht=>?_⟩
 rw[Tryz.params9]at ht
 have hm:t=71:=by simpa using Array.mem_of_getElem? ht
 rcases hm with rfl
 ·exact(show Tryz.prog.wantsStandIn 71=false by kernel_rfl)
theorem deskRuns_card:Rows.DeskRunsCardSaid:=
 Claim7.holds_tied_plain_at .later [] _ _ _ _ aF (fun _ h=>by cases h) (by kernel_rfl) (fun _ h=>by cases h) deskRuns_row_tie rfl ⟨rfl,rfl⟩ (by kernel_rfl) rfl cX (by kernel_rfl)
#print axioms deskRuns_card
end Go.Proofs.YtehmlpkapjdhkaaGreatDoor
