import Derived.Test.YtehmlpkapjdhkaaGreatDoorML1
import Derived.Test.YtehmlpkapjdhkaaGreatDoorMK2
namespace Go.Proofs.YtehmlpkapjdhkaaGreatDoor
section
open Go.RowKit
set_option maxRecDepth 100000
def sameLB : List Rf → List Rf → Bool
  | [],[]=>true
  | x :: xs,y :: ys=>sameR x y && sameLB xs ys
  | _,_=>false
theorem sameLB_iff {a b : List Rf} : sameLB a b = true ↔ a = b:=by
  induction a generalizing b with
  | nil=>cases b <;> simp [sameLB]
  | cons x xs ih => cases b with
    | nil=>simp [sameLB]
    | cons y ys=>simp [sameLB,sameR_iff,ih]
def unlB (a b : Rp) : Bool:=a.g == b.g && !sameLB a.l b.l
theorem unlB_iff {a b : Rp} : unlB a b = true ↔ unl a b:=by
  unfold unlB unl
  rw [Bool.and_eq_true,beq_iff_eq,Bool.not_eq_true',← Bool.not_eq_true,sameLB_iff]
def anyUnlB : List Rp → Bool
  | []=>false
  | a :: t=>t.any (unlB a) || anyUnlB t
theorem anyUnlB_iff {l : List Rp} : anyUnlB l = true ↔ ∃ i j,∃ hi : i < l.length,∃ hj : j < l.length,i < j ∧ unl l[i] l[j]:=by
  induction l with
  | nil=>simp [anyUnlB]
  | cons a t ih =>
    rw [anyUnlB,Bool.or_eq_true,ih,List.any_eq_true]
    constructor
    · rintro (⟨x, hx, q⟩ | ⟨i, j, hi, hj, hij, q⟩)
      · obtain ⟨n, hn, rfl⟩ := List.mem_iff_getElem.1 hx
        exact ⟨0,n + 1,by simp,by simpa using hn,by omega,by simpa using unlB_iff.1 q⟩
      · exact ⟨i + 1,j + 1,by simpa using hi,by simpa using hj,by omega,by simpa using q⟩
    · rintro ⟨i, j, hi, hj, hij, q⟩
      cases j with
      | zero=>omega
      | succ j =>
        cases i with
        | zero=>exact .inl ⟨t[j]'(by simpa using hj),List.getElem_mem _,unlB_iff.2 (by simpa using q)⟩
        | succ i=>exact .inr ⟨i,j,by simpa using hi,by simpa using hj,by omega,by simpa using q⟩
def firstE : List Rp → Int
  | []=>0
  | r :: t=>if r.err ≠ 0 then r.err else firstE t
theorem firstE_zero {l : List Rp} : firstE l = 0 ↔ ∀ r ∈ l,r.err = 0:=by
  induction l with
  | nil=>simp [firstE]
  | cons r t ih =>
    unfold firstE
    by_cases h : r.err = 0
    · rw [if_neg (fun e=>e h),ih];simp [h]
    · rw [if_pos h];simp [h]
theorem firstE_drop {l : List Rp} {k : Nat} (hk : k < l.length) : firstE (l.drop k) = if l[k].err ≠ 0 then l[k].err else firstE (l.drop (k + 1)):=by
  rw [List.drop_eq_getElem_cons hk,firstE]
def gOf (l : List Rp) : List Int:=l.map Rp.g
def topB (l : List Rp) (i : Nat) : Bool:=(gOf l).getD i 0 == (gOf l).getD (bestTo (gOf l) l.length) 0
def checkC (l : List Rp) : Int:=if l.length ≠ 3 then 1 else if firstE l ≠ 0 then firstE l else if anyUnlB l = true then 4 else if 3 < 2 * cntTo (topB l) 3 then 0 else 4
theorem HoldsQ.blk {w : World} {l : List Rq} {b off i : Nat} (h : HoldsQ w (some ⟨b,off,none⟩) l) (hi : i < l.length) : b < w.heap.size:=by
  obtain ⟨b',off',e,hlt,_⟩:=h i hi
  cases e;exact hlt
theorem gs_map (l : List Rq) : gsOf l = gOf (l.map Rq.r):=by simp [gsOf,gOf,Function.comp_def]
theorem bool_same {r s : Bool} (h : r = true ↔ s = true) : r = s:=by
  cases r <;> cases s <;> simp_all
theorem anyUnl_b (a : Option Addr) (c : Nat) (l : List Rq) (w : World) (h : HoldsQ w a l) (hl : l.length ≤ 1000) (hcl : l.length ≤ c) (hcm : c ≤ 9223372036854775807) :
    Calls Tryz.prog 53 #[.slice a l.length c] w fun e w'=>e = .returned (.bool (anyUnlB (l.map Rq.r))) ∧ Below w.heap.size w w':=by
  refine (anyUnl_any a c l w h hl hcl hcm).mono ?_
  rintro e w1 ⟨r,rfl,hr,hb⟩
  refine ⟨ret_bool (bool_same ?_),hb⟩
  rw [hr,anyUnlB_iff]
  constructor
  · rintro ⟨i,j,hi,hj,hij,q⟩;exact ⟨i,j,by simpa using hi,by simpa using hj,hij,by simpa using q⟩
  · rintro ⟨i,j,hi,hj,hij,q⟩;exact ⟨i,j,by simpa using hi,by simpa using hj,hij,by simpa using q⟩
set_option maxHeartbeats 2000000 in
theorem checkC_any (a : Option Addr) (c : Nat) (l : List Rq) (w : World) (hg : Glob w) (h : HoldsQ w a l) (hlc : l.length ≤ c) (hcm : c ≤ 9223372036854775807) :
    Calls Tryz.prog 13 #[.agg #[.slice a l.length c]] w fun e w'=>e = .returned (.int .i64 (checkC (l.map Rq.r))) ∧ Below w.heap.size w w':=by
  have hA:=below_alloc w (.cells #[.slice a l.length c] 24)
  have hk1:=heap_alloc_new w (.cells #[.slice a l.length c] 24)
  have y0 : (w.alloc (.cells #[.slice a l.length c] 24)).cell? ⟨w.heap.size,0,none⟩ = some (.slice a l.length c):=by rw [cell_of_row _ _ _ _ _ _ hk1];rfl
  by_cases h3 : l.length = 3
  case neg =>
    have z3 : ((l.length : Int) != 3) = true:=by simpa using (by omega : ¬ (l.length : Int) = 3)
    have HR : Hid (1 = checkC (l.map Rq.r)):=by unfold Hid checkC;rw [if_pos (by simpa using h3)]
    clear h3
    go_enter Tryz.func13,Tryz.ntmps13
    go_wp2
    go_ret
    exact ⟨ret_int HR.out,hA⟩
  have H3 : Hid (l.length = 3):=h3
  rw [h3] at hk1 y0 hA ⊢
  clear h3
  have hhA:=h.below hA
  have hgA:=hg.below hA
  go_enter Tryz.func13,Tryz.ntmps13
  go_wp2_with fail
  generalize w.alloc (.cells #[.slice a 3 c] 24) = W0 at *
  go_loopw [14] (fun i wr=>∃ k : Nat,i = .int .i64 k ∧ k ≤ 3 ∧ Below W0.heap.size W0 wr ∧ Hid (firstE (l.map Rq.r) = firstE ((l.map Rq.r).drop k))) (fun i _=>3 - (intOf i).toNat)
  case atStart=>exact ⟨0,rfl,Nat.zero_le _,Below.refl _ _,by simp [Hid]⟩
  case round =>
    obtain ⟨k,rfl,hk,hB,HE⟩:=hrel
    by_cases hlt : k < 3
    · have hkl : k < l.length := by have := H3.out; omega
      obtain ⟨b,off,rfl,hb,hc⟩:=(hhA.below hB) k hkl
      obtain ⟨⟨x0,x1,x2,x3,x4,x5,x6⟩,hH⟩:=hc k hkl
      have hA2:=below_alloc wr l[k].blk
      have hnew:=heap_alloc_new wr l[k].blk
      have hB2:=hB.trans (hA2.mono hB.size)
      have hrc:=repCheck_any l[k].aS l[k].cs l[k].r.s l[k].al l[k].cl l[k].r.l l[k].r.g l[k].r.ph l[k].a1 l[k].c1 l[k].r.m l[k].a2 l[k].c2 l[k].r.us l[k].r.f _ (hgA.below hB2) (RepH.below hH hA2)
      obtain ⟨z0,z1,z2,z3,z4,z5,z6⟩:=c7_of hnew
      have HD : Hid (firstE ((l.map Rq.r).drop k) = if l[k].r.err ≠ 0 then l[k].r.err else firstE ((l.map Rq.r).drop (k + 1))):=by
        have:=firstE_drop (l:=l.map Rq.r) (k:=k) (by simpa using hkl)
        unfold Hid
        simpa only [List.getElem_map] using this
      clear hc hnew hA2
      go_wp2_with fail
      refine hrc.mono ?_
      clear hrc
      rintro e w1 ⟨rfl,hb1⟩
      have hB1:=hB2.trans (hb1.mono hB2.size)
      clear hb1 x0 x1 x2 x3 x4 x5 x6 z0 z1 z2 z3 z4 z5 z6 hB2
      by_cases he : repE l[k].r.s l[k].r.l l[k].r.g l[k].r.ph l[k].r.m l[k].r.us l[k].r.f = 0
      · have HN : Hid (firstE (l.map Rq.r) = firstE ((l.map Rq.r).drop (k + 1))) := by unfold Hid; rw [HE.out, HD.out]; exact if_neg (fun e => e he)
        rw [he]
        clear he HD HE
        go_wp2
        go_roundw
        case rel=>exact ⟨k + 1,by go_num,by omega,hB1,HN⟩
        case measure=>simp [intOf];omega
      · have HN : Hid (repE l[k].r.s l[k].r.l l[k].r.g l[k].r.ph l[k].r.m l[k].r.us l[k].r.f = checkC (l.map Rq.r)):=by
          have q : firstE (l.map Rq.r) = repE l[k].r.s l[k].r.l l[k].r.g l[k].r.ph l[k].r.m l[k].r.us l[k].r.f:=by rw [HE.out,HD.out];exact if_pos he
          unfold Hid checkC;rw [if_neg (by simpa using H3.out),if_pos (by rw [q];exact he),q]
        have ze : (repE l[k].r.s l[k].r.l l[k].r.g l[k].r.ph l[k].r.m l[k].r.us l[k].r.f != 0) = true:=by simpa using he
        have hBw:=hA.trans (hB1.mono hA.size)
        clear he HD HE
        go_wp2
        go_ret
        exact ⟨ret_int HN.out,hBw⟩
    · have hk3 : k = 3 := by omega
      subst hk3
      have HF : Hid (firstE (l.map Rq.r) = 0):=by unfold Hid;rw [HE.out,List.drop_of_length_le (by simpa using Nat.le_of_eq H3.out)];rfl
      have hBw:=hA.trans (hB.mono hA.size)
      have kr:=(hB.block _ (heap_lt hk1)).trans hk1
      have y0r : wr.cell? ⟨w.heap.size,0,none⟩ = some (.slice a 3 c):=by rw [cell_of_row _ _ _ _ _ _ kr];rfl
      have hu:=anyUnl_b a c l wr (hhA.below hB) (by have:=H3.out;omega) hlc hcm
      rw [H3.out] at hu
      clear HE
      go_wp2_with fail
      refine hu.mono ?_
      clear hu
      rintro e w1 ⟨rfl,hb1⟩
      have hB1:=hBw.trans (hb1.mono hBw.size)
      have k1:=(hb1.block _ (heap_lt kr)).trans kr
      have hh1:=(hhA.below hB).below hb1
      clear hb1 hB hBw kr y0r hhA
      cases hr : anyUnlB (l.map Rq.r) with
      | true =>
        have HR : Hid (4 = checkC (l.map Rq.r)):=by unfold Hid checkC;rw [if_neg (by simpa using H3.out),if_neg (fun e=>e HF.out),if_pos hr]
        clear hr
        go_wp2
        go_ret
        exact ⟨ret_int HR.out,hB1⟩
      | false =>
      have HU : Hid (¬ anyUnlB (l.map Rq.r) = true):=fun e=>by rw [hr] at e;cases e
      clear hr
      have HB3 : Hid (bestTo (gsOf l) 3 < l.length):=by have:=bestTo_lt (gsOf l) 3 3 (by omega) (by omega);unfold Hid;rw [H3.out];exact this
      have HT : Hid (∀ i (hi : i < l.length),topB (l.map Rq.r) i = (l[i].r.g == (l[bestTo (gsOf l) 3]'HB3.out).r.g)):=fun i hi=>by
        unfold topB
        have e3 : (l.map Rq.r).length = 3:=by simpa using H3.out
        rw [e3,← gs_map,gs_at hi,gs_at HB3.out]
      obtain ⟨b,off,rfl,hb,hc⟩:=hh1 _ HB3.out
      have x2:=(hc _ HB3.out).1.x2
      have hb3 : bestTo (gsOf l) 3 < 3:=bestTo_lt (gsOf l) 3 3 (by omega) (by omega)
      have hb3' : ((bestTo (gsOf l) 3 : Nat) : Int) < 3:=by omega
      have hnw:=newest_any (some ⟨b,off,none⟩) c l
      rw [H3.out] at hnw
      have y01 : w1.cell? ⟨w.heap.size,0,none⟩ = some (.slice (some ⟨b,off,none⟩) 3 c):=by rw [cell_of_row _ _ _ _ _ _ k1];rfl
      clear hc
      go_wp2_with fail
      have hdr:=(Below.refl w1.heap.size w1).drew
      have hBD:=hB1.trans (hdr.mono hB1.size)
      have kD : w1.drew.heap[w.heap.size]? = some (.cells #[.slice (some ⟨b,off,none⟩) 3 c] 24):=k1
      have hhD:=hh1.below hdr
      have hbD : b < w1.drew.heap.size:=hb
      have hS0 : w1.drew.cell? ⟨w.heap.size,0,none⟩ = some (.slice (some ⟨b,off,none⟩) 3 c) ∧ w1.drew.cell? ⟨b,off + bestTo (gsOf l) 3 * 7 + 2,none⟩ = some (.int .i64 (l[bestTo (gsOf l) 3]'HB3.out).r.g):=⟨y01,x2⟩
      refine wp_region_E (fun W=>W.cell? ⟨w.heap.size,0,none⟩ = some (.slice (some ⟨b,off,none⟩) 3 c) ∧ W.cell? ⟨b,off + bestTo (gsOf l) 3 * 7 + 2,none⟩ = some (.int .i64 (l[bestTo (gsOf l) 3]'HB3.out).r.g)) (fun k=>k == 9) (by kernel_rfl) hS0 (fun hS=>?_)
      generalize w1.drew = W1 at *
      clear hS0 hdr hB1 k1 hh1 y01 x2 hb
      refine wpAnyE.take (i:=0) (v:=?_) rfl (by kernel_rfl) (by kernel_rfl) (by kernel_rfl) (by kernel_rfl) (fun _ _ _ h=>h) (Or.inl ⟨by rfl,?_⟩) (by assumption) ?_
      rotate_left
      · intro w hSw;obtain ⟨s0,s1⟩:=hSw;go_simp;with_reducible rfl
      try simp only [Act.put,uA,uC,uD,uE,uF]
      refine wpAnyE.take (i:=1) (v:=?_) rfl (by kernel_rfl) (by kernel_rfl) (by kernel_rfl) (by kernel_rfl) (fun _ _ _ h=>h) (Or.inl ⟨by rfl,?_⟩) (by assumption) ?_
      rotate_left
      · intro w hSw;obtain ⟨s0,s1⟩:=hSw;go_simp;with_reducible rfl
      try simp only [Act.put,uA,uB,uC,uD,uE,uF]
      refine wpAnyE.take (i:=2) (v:=?_) rfl (by kernel_rfl) (by kernel_rfl) (by kernel_rfl) (by kernel_rfl) (fun _ _ _ h=>h) (Or.inl ⟨by rfl,?_⟩) (by assumption) ?_
      rotate_left
      · intro w hSw;obtain ⟨s0,s1⟩:=hSw;go_simp;with_reducible rfl
      try simp only [Act.put,uA,uB,uC,uD,uE,uF]
      refine wpAnyE.take (i:=3) (v:=?_) rfl (by kernel_rfl) (by kernel_rfl) (by kernel_rfl) (by kernel_rfl) (fun _ _ _ h=>h) (Or.inl ⟨by rfl,?_⟩) (by assumption) ?_
      rotate_left
      · intro w hSw;obtain ⟨s0,s1⟩:=hSw;go_simp;with_reducible rfl
      try simp only [Act.put,uA,uB,uC,uD,uE,uF]
      refine wpAnyE.two (i:=4) (j:=8) (by kernel_rfl) rfl rfl (fun K hK=>?_) (fun K hK=>?_)
      · go_simp
        refine (hnw W1 hhD (by omega)).mono ?_
        rintro e W2 ⟨rfl,hb2⟩
        have hB2:=hBD.trans (hb2.mono hBD.size)
        have k2:=(hb2.block _ (heap_lt kD)).trans kD
        have hh2:=hhD.below hb2
        have hS2 : W2.cell? ⟨w.heap.size,0,none⟩ = some (.slice (some ⟨b,off,none⟩) 3 c) ∧ W2.cell? ⟨b,off + bestTo (gsOf l) 3 * 7 + 2,none⟩ = some (.int .i64 (l[bestTo (gsOf l) 3]'HB3.out).r.g):=⟨(hb2.cell (p:=⟨w.heap.size,0,none⟩) (heap_lt kD)).trans hS.1,(hb2.cell (p:=⟨b,off + bestTo (gsOf l) 3 * 7 + 2,none⟩) hbD).trans hS.2⟩
        go_simp
        refine hK _ _ (fun _=>hS2) ?_
        clear hK K hBD kD hhD hb2 hnw hS
        try simp only [Act.put,uA,uB,uC,uD,uE,uF]
        refine wpAnyE.take (i:=5) (v:=?_) rfl (by kernel_rfl) (by kernel_rfl) (by kernel_rfl) (by kernel_rfl) (fun _ _ _ h=>h) (Or.inl ⟨by rfl,?_⟩) (by assumption) ?_
        rotate_left
        · intro w hSw;obtain ⟨s0,s1⟩:=hSw;go_simp;with_reducible rfl
        try simp only [Act.put,uA,uB,uC,uD,uE,uF]
        refine wpAnyE.take (i:=6) (v:=?_) rfl (by kernel_rfl) (by kernel_rfl) (by kernel_rfl) (by kernel_rfl) (fun _ _ _ h=>h) (Or.inl ⟨by rfl,?_⟩) (by assumption) ?_
        rotate_left
        · intro w hSw;obtain ⟨s0,s1⟩:=hSw;go_simp;with_reducible rfl
        try simp only [Act.put,uA,uB,uC,uD,uE,uF]
        refine wpAnyE.take (i:=7) (v:=?_) rfl (by kernel_rfl) (by kernel_rfl) (by kernel_rfl) (by kernel_rfl) (fun _ _ _ h=>h) (Or.inl ⟨by rfl,?_⟩) (by assumption) ?_
        rotate_left
        · intro w hSw;obtain ⟨s0,s1⟩:=hSw;go_simp;with_reducible rfl
        try simp only [Act.put,uA,uB,uC,uD,uE,uF]
        refine wpAnyE.one (i:=8) (by kernel_rfl) rfl (fun K hK=>?_)
        go_simp
        have hA3:=below_alloc W2 (.cells #[.int .i64 0] 3)
        have k3:=heap_alloc_new W2 (.cells #[.int .i64 0] 3)
        have kp3:=(hA3.block _ (heap_lt k2)).trans k2
        have hS3 : (W2.alloc (.cells #[.int .i64 0] 3)).cell? ⟨w.heap.size,0,none⟩ = some (.slice (some ⟨b,off,none⟩) 3 c) ∧ (W2.alloc (.cells #[.int .i64 0] 3)).cell? ⟨b,off + bestTo (gsOf l) 3 * 7 + 2,none⟩ = some (.int .i64 (l[bestTo (gsOf l) 3]'HB3.out).r.g):=⟨(hA3.cell (p:=⟨w.heap.size,0,none⟩) (heap_lt k2)).trans hS2.1,(hA3.cell (p:=⟨b,off + bestTo (gsOf l) 3 * 7 + 2,none⟩) (hh2.blk HB3.out)).trans hS2.2⟩
        refine hK _ _ (fun _=>hS3) ?_
        clear hK K
        try simp only [Act.put,uA,uB,uC,uD,uE,uF]
        refine wpAnyE.one (i:=9) (by kernel_rfl) rfl (fun K hK=>?_)
        have c3 : (W2.alloc (.cells #[.int .i64 0] 3)).cell? ⟨W2.heap.size,0,none⟩ = some (.int .i64 0):=by rw [cell_of_row _ _ _ _ _ _ k3];rfl
        have f3:=f_of (o:=0) k3
        go_simp
        refine hK _ _ (fun e=>by cases e) ?_
        clear hK K
        try simp only [Act.put,uA,uB,uC,uD,uE,uF]
        refine wpAnyE.done (by kernel_rfl) ?_
        have hBS:=below_alloc W2 (.cells #[.int .i64 (l[bestTo (gsOf l) 3]'HB3.out).r.g] 3)
        have KQ:=heap_alloc_new W2 (.cells #[.int .i64 (l[bestTo (gsOf l) 3]'HB3.out).r.g] 3)
        have KP:=(hBS.block _ (heap_lt k2)).trans k2
        have HBW:=hB2.trans (hBS.mono hB2.size)
        have HH:=hh2.below hBS
        clear hBS hA3 k3 kp3 k2 hS3 hS2 c3 f3 hh2 hB2
        have hq0 : (W2.alloc (.cells #[.int .i64 (l[bestTo (gsOf l) 3]'HB3.out).r.g] 3)).heap[W2.heap.size]? = some (.cells #[.int .i64 (l[bestTo (gsOf l) 3]'HB3.out).r.g] 3):=KQ
        have hmo:=mostCheck (some ⟨b,off,none⟩) c 3 w.heap.size (W2.heap.size) (topB (l.map Rq.r)) (W2.alloc (.cells #[.int .i64 (l[bestTo (gsOf l) 3]'HB3.out).r.g] 3)) (by omega) (fun i W hi hb=>by
          have hil : i < l.length:=by have:=H3.out;omega
          have hp:=(hb.block _ (heap_lt KP)).trans KP
          rw [← H3.out] at hp
          have hh:=isGreatest_any (some ⟨b,off,none⟩) c l w.heap.size (W2.heap.size) i (l[bestTo (gsOf l) 3]'HB3.out).r.g W (HH.below hb) hil hp ((hb.block _ (heap_lt hq0)).trans hq0)
          rw [HT.out i hil]
          exact hh)
        have yW : (W2.alloc (.cells #[.int .i64 (l[bestTo (gsOf l) 3]'HB3.out).r.g] 3)).cell? ⟨w.heap.size,0,none⟩ = some (.slice (some ⟨b,off,none⟩) 3 c):=by rw [cell_of_row _ _ _ _ _ _ KP];rfl
        clear hq0 KQ KP HH
        go_wp2_with fail
        refine hmo.mono ?_
        clear hmo
        rintro e W4 ⟨rfl,hb4⟩
        have hB4:=HBW.trans (hb4.mono HBW.size)
        clear hb4 yW
        cases hd : decide (3 < 2 * cntTo (topB (l.map Rq.r)) 3) with
        | true =>
          have HR : Hid (0 = checkC (l.map Rq.r)):=by unfold Hid checkC;rw [if_neg (by simpa using H3.out),if_neg (fun e=>e HF.out),if_neg (fun e=>HU.out e),if_pos (of_decide_eq_true hd)]
          clear hd
          go_wp2
          go_ret
          exact ⟨ret_int HR.out,hB4⟩
        | false =>
          have HR : Hid (4 = checkC (l.map Rq.r)):=by unfold Hid checkC;rw [if_neg (by simpa using H3.out),if_neg (fun e=>e HF.out),if_neg (fun e=>HU.out e),if_neg (of_decide_eq_false hd)]
          clear hd
          go_wp2
          go_ret
          exact ⟨ret_int HR.out,hB4⟩
      · go_simp
        have hA3:=below_alloc W1 (.cells #[.int .i64 0] 3)
        have k3:=heap_alloc_new W1 (.cells #[.int .i64 0] 3)
        have kp3:=(hA3.block _ (heap_lt kD)).trans kD
        have hS3 : (W1.alloc (.cells #[.int .i64 0] 3)).cell? ⟨w.heap.size,0,none⟩ = some (.slice (some ⟨b,off,none⟩) 3 c) ∧ (W1.alloc (.cells #[.int .i64 0] 3)).cell? ⟨b,off + bestTo (gsOf l) 3 * 7 + 2,none⟩ = some (.int .i64 (l[bestTo (gsOf l) 3]'HB3.out).r.g):=⟨(hA3.cell (p:=⟨w.heap.size,0,none⟩) (heap_lt kD)).trans hS.1,(hA3.cell (p:=⟨b,off + bestTo (gsOf l) 3 * 7 + 2,none⟩) hbD).trans hS.2⟩
        have hB3:=hBD.trans (hA3.mono hBD.size)
        have hh3:=hhD.below hA3
        have hl3:=heap_lt kD
        refine hK _ _ (fun _=>hS3) ?_
        clear hK K
        try simp only [Act.put,uA,uB,uC,uD,uE,uF]
        refine wpAnyE.one (i:=4) (by kernel_rfl) rfl (fun K hK=>?_)
        go_simp
        refine (hnw _ hh3 (by omega)).mono ?_
        rintro e W2 ⟨rfl,hb2⟩
        have hB2:=hB3.trans (hb2.mono hB3.size)
        have k2:=(hb2.block _ (heap_lt k3)).trans k3
        have kp2:=(hb2.block _ (heap_lt kp3)).trans kp3
        have hh2:=hh3.below hb2
        have hlq:=heap_lt k2
        have hS2 : W2.cell? ⟨w.heap.size,0,none⟩ = some (.slice (some ⟨b,off,none⟩) 3 c) ∧ W2.cell? ⟨b,off + bestTo (gsOf l) 3 * 7 + 2,none⟩ = some (.int .i64 (l[bestTo (gsOf l) 3]'HB3.out).r.g):=⟨(hb2.cell (p:=⟨w.heap.size,0,none⟩) (heap_lt kp3)).trans hS3.1,(hb2.cell (p:=⟨b,off + bestTo (gsOf l) 3 * 7 + 2,none⟩) (hh3.blk HB3.out)).trans hS3.2⟩
        go_simp
        refine hK _ _ (fun _=>hS2) ?_
        clear hK K hb2 hnw hS hS3 hh3 k3 kp3 hA3
        try simp only [Act.put,uA,uB,uC,uD,uE,uF]
        refine wpAnyE.take (i:=5) (v:=?_) rfl (by kernel_rfl) (by kernel_rfl) (by kernel_rfl) (by kernel_rfl) (fun _ _ _ h=>h) (Or.inl ⟨by rfl,?_⟩) (by assumption) ?_
        rotate_left
        · intro w hSw;obtain ⟨s0,s1⟩:=hSw;go_simp;with_reducible rfl
        try simp only [Act.put,uA,uB,uC,uD,uE,uF]
        refine wpAnyE.take (i:=6) (v:=?_) rfl (by kernel_rfl) (by kernel_rfl) (by kernel_rfl) (by kernel_rfl) (fun _ _ _ h=>h) (Or.inl ⟨by rfl,?_⟩) (by assumption) ?_
        rotate_left
        · intro w hSw;obtain ⟨s0,s1⟩:=hSw;go_simp;with_reducible rfl
        try simp only [Act.put,uA,uB,uC,uD,uE,uF]
        refine wpAnyE.take (i:=7) (v:=?_) rfl (by kernel_rfl) (by kernel_rfl) (by kernel_rfl) (by kernel_rfl) (fun _ _ _ h=>h) (Or.inl ⟨by rfl,?_⟩) (by assumption) ?_
        rotate_left
        · intro w hSw;obtain ⟨s0,s1⟩:=hSw;go_simp;with_reducible rfl
        try simp only [Act.put,uA,uB,uC,uD,uE,uF]
        refine wpAnyE.one (i:=9) (by kernel_rfl) rfl (fun K hK=>?_)
        have c3 : W2.cell? ⟨W1.heap.size,0,none⟩ = some (.int .i64 0):=by rw [cell_of_row _ _ _ _ _ _ k2];rfl
        have f3:=f_of (o:=0) k2
        go_simp
        refine hK _ _ (fun e=>by cases e) ?_
        clear hK K
        try simp only [Act.put,uA,uB,uC,uD,uE,uF]
        refine wpAnyE.done (by kernel_rfl) ?_
        have KQ:=heap_setCell_same W2 W1.heap.size 0 _ 3 (.int .i64 (l[bestTo (gsOf l) 3]'HB3.out).r.g) k2
        have KP:=(heap_setCell_other W2 ⟨W1.heap.size,0,none⟩ w.heap.size (.int .i64 (l[bestTo (gsOf l) 3]'HB3.out).r.g) (by show w.heap.size ≠ W1.heap.size;omega)).trans kp2
        have hBS : Below w.heap.size w (W2.setCell ⟨W1.heap.size,0,none⟩ (.int .i64 (l[bestTo (gsOf l) 3]'HB3.out).r.g)):=hB2.setCell (by show w.heap.size ≤ W1.heap.size;omega) _
        have HBW:=hBS
        have HH:=(h.below hBS)
        clear hBS kp2 k2 hS2 c3 f3 hh2 hB2 hB3 hBD kD hhD
        have hq0 : (W2.setCell ⟨W1.heap.size,0,none⟩ (.int .i64 (l[bestTo (gsOf l) 3]'HB3.out).r.g)).heap[W1.heap.size]? = some (.cells #[.int .i64 (l[bestTo (gsOf l) 3]'HB3.out).r.g] 3):=KQ
        have hmo:=mostCheck (some ⟨b,off,none⟩) c 3 w.heap.size (W1.heap.size) (topB (l.map Rq.r)) (W2.setCell ⟨W1.heap.size,0,none⟩ (.int .i64 (l[bestTo (gsOf l) 3]'HB3.out).r.g)) (by omega) (fun i W hi hb=>by
          have hil : i < l.length:=by have:=H3.out;omega
          have hp:=(hb.block _ (heap_lt KP)).trans KP
          rw [← H3.out] at hp
          have hh:=isGreatest_any (some ⟨b,off,none⟩) c l w.heap.size (W1.heap.size) i (l[bestTo (gsOf l) 3]'HB3.out).r.g W (HH.below hb) hil hp ((hb.block _ (heap_lt hq0)).trans hq0)
          rw [HT.out i hil]
          exact hh)
        have yW : (W2.setCell ⟨W1.heap.size,0,none⟩ (.int .i64 (l[bestTo (gsOf l) 3]'HB3.out).r.g)).cell? ⟨w.heap.size,0,none⟩ = some (.slice (some ⟨b,off,none⟩) 3 c):=by rw [cell_of_row _ _ _ _ _ _ KP];rfl
        clear hq0 KQ KP HH
        go_wp2_with fail
        refine hmo.mono ?_
        clear hmo
        rintro e W4 ⟨rfl,hb4⟩
        have hB4:=HBW.trans (hb4.mono HBW.size)
        clear hb4 yW
        cases hd : decide (3 < 2 * cntTo (topB (l.map Rq.r)) 3) with
        | true =>
          have HR : Hid (0 = checkC (l.map Rq.r)):=by unfold Hid checkC;rw [if_neg (by simpa using H3.out),if_neg (fun e=>e HF.out),if_neg (fun e=>HU.out e),if_pos (of_decide_eq_true hd)]
          clear hd
          go_wp2
          go_ret
          exact ⟨ret_int HR.out,hB4⟩
        | false =>
          have HR : Hid (4 = checkC (l.map Rq.r)):=by unfold Hid checkC;rw [if_neg (by simpa using H3.out),if_neg (fun e=>e HF.out),if_neg (fun e=>HU.out e),if_neg (of_decide_eq_false hd)]
          clear hd
          go_wp2
          go_ret
          exact ⟨ret_int HR.out,hB4⟩
end

section
open Go.RowKit
set_option maxRecDepth 100000
set_option maxHeartbeats 1000000 in
theorem newestC_any (a : Option Addr) (c : Nat) (l : List Rq) (w : World) (hg : Glob w) (h : HoldsQ w a l) (hlc : l.length ≤ c) (hcm : c ≤ 9223372036854775807) :
    Calls Tryz.prog 16 #[.agg #[.slice a l.length c]] w fun e w'=>∃ n : Nat,e = .returned (.tuple #[.int .i64 n,.int .i64 (checkC (l.map Rq.r))]) ∧ Hid (checkC (l.map Rq.r) = 0 → n = bestTo (gsOf l) l.length) ∧ Below w.heap.size w w':=by
  have hA:=below_alloc w (.cells #[.slice a l.length c] 24)
  have hk1:=heap_alloc_new w (.cells #[.slice a l.length c] 24)
  have y0 : (w.alloc (.cells #[.slice a l.length c] 24)).cell? ⟨w.heap.size,0,none⟩ = some (.slice a l.length c):=by rw [cell_of_row _ _ _ _ _ _ hk1];rfl
  have hc:=checkC_any a c l _ (hg.below hA) (h.below hA) hlc hcm
  have hh:=h.below hA
  obtain ⟨E,HE⟩ : ∃ E,Hid (checkC (l.map Rq.r) = E):=⟨_,rfl⟩
  rw [HE.out] at hc ⊢
  go_enter Tryz.func16,Tryz.ntmps16
  go_wp2_with fail
  generalize w.alloc (.cells #[.slice a l.length c] 24) = W0 at *
  refine hc.mono ?_
  clear hc
  rintro e w1 ⟨rfl,hb1⟩
  have hB1:=hA.trans (hb1.mono hA.size)
  have k1:=(hb1.block _ (heap_lt hk1)).trans hk1
  have hh1:=hh.below hb1
  have y1 : w1.cell? ⟨w.heap.size,0,none⟩ = some (.slice a l.length c):=by rw [cell_of_row _ _ _ _ _ _ k1];rfl
  clear hb1 hA hh hk1 y0 h hg HE
  by_cases he : E = 0
  · have hn := newest_any a c l w1 hh1 (by omega)
    obtain ⟨n,HN⟩ : ∃ n : Nat,Hid (bestTo (gsOf l) l.length = n):=⟨_,rfl⟩
    have HP : Hid (∀ e w',(∃ n' : Nat,e = Ending.returned (.tuple #[.int .i64 n',.int .i64 0]) ∧ n' = n ∧ Below w.heap.size w w') → ∃ n' : Nat,e = Ending.returned (.tuple #[.int .i64 n',.int .i64 E]) ∧ Hid (E = 0 → n' = bestTo (gsOf l) l.length) ∧ Below w.heap.size w w'):=by
      rintro e w' ⟨n',q1,q2,q3⟩
      refine ⟨n',?_,?_,q3⟩
      · rw [he];exact q1
      · intro _;rw [q2,HN.out]
    rw [HN.out] at hn
    have he' : (E != 0) = false:=by simpa using he
    go_wp2_with fail
    refine hn.mono ?_
    clear hn
    rintro e w2 ⟨rfl,hb2⟩
    have hB2:=hB1.trans (hb2.mono hB1.size)
    clear hb2 hB1 k1 hh1 y1 he he'
    go_wp2
    refine bodyPost_ret (v:=.tuple #[.int .i64 n,.int .i64 0]) (by simp [results,Tryz.results16,go_sem]) rfl ?_
    exact HP.out _ _ ⟨n,rfl,rfl,hB2⟩
  · have he' : (E != 0) = true := by simpa using he
    have HP : Hid (E = 0 → (0 : Nat) = bestTo (gsOf l) l.length):=fun q=>absurd q he
    clear he
    go_wp2
    refine bodyPost_ret (v:=.tuple #[.int .i64 0,.int .i64 E]) (by simp [results,Tryz.results16,go_sem]) rfl ?_
    exact ⟨0,rfl,HP,hB1⟩
def bitsB (n : Int) : Bool:=decide (0 ≤ n) && decide (n < 8)
def cpE (l : List Rp) (m : List Ob) (us : List Up) (up late : Int) : Int:=if checkC l ≠ 0 then checkC l else if pushE m us ≠ 0 then pushE m us else if (bitsB up && bitsB late) = true then 0 else 3
theorem cpE_zero {l : List Rp} {m : List Ob} {us : List Up} {up late : Int} : cpE l m us up late = 0 ↔ checkC l = 0 ∧ pushE m us = 0 ∧ (0 ≤ up ∧ up < 8) ∧ (0 ≤ late ∧ late < 8):=by
  unfold cpE
  split
  · rename_i h;exact ⟨fun e=>absurd e h,fun e=>absurd e.1 h⟩
  · rename_i h
    split
    · rename_i h2;exact ⟨fun e=>absurd e h2,fun e=>absurd e.2.1 h2⟩
    · rename_i h2
      split
      · rename_i h3
        simp only [bitsB,Bool.and_eq_true,decide_eq_true_eq] at h3
        exact ⟨fun _=>⟨Classical.byContradiction h,Classical.byContradiction h2,h3.1,h3.2⟩,fun _=>rfl⟩
      · rename_i h3
        refine ⟨fun e=>absurd e (by decide),fun e=>?_⟩
        exact absurd (by simp only [bitsB,Bool.and_eq_true,decide_eq_true_eq];exact ⟨e.2.2.1,e.2.2.2⟩) h3
set_option maxHeartbeats 1000000 in
theorem checkPush_any (a : Option Addr) (c : Nat) (l : List Rq) (am : Option Addr) (cm : Nat) (m : List Ob) (au : Option Addr) (cu : Nat) (us : List Up) (f : Bool) (up late : Int) (w : World) (hg : Glob w) (h : HoldsQ w a l) (hlc : l.length ≤ c) (hcm : c ≤ 9223372036854775807)
    (hm : HoldsS w am m) (hml : m.length ≤ 9223372036854775807) (hu : HoldsU w au us) (hul : us.length ≤ 9223372036854775807) :
    Calls Tryz.prog 43 #[.agg #[.slice a l.length c],pushV am m.length cm au us.length cu f,.int .i64 up,.int .i64 late] w fun e w'=>e = .returned (.int .i64 (cpE (l.map Rq.r) m us up late)) ∧ Below w.heap.size w w':=by
  have hB:=below_alloc2 w (.cells #[.slice a l.length c] 24) (.cells #[.slice am m.length cm,.slice au us.length cu,.bool f] 28)
  have hA1:=below_alloc w (.cells #[.slice a l.length c] 24)
  have hA2:=below_alloc (w.alloc (.cells #[.slice a l.length c] 24)) (.cells #[.slice am m.length cm,.slice au us.length cu,.bool f] 28)
  have h1:=heap_alloc_new w (.cells #[.slice a l.length c] 24)
  have h2:=heap_alloc_new (w.alloc (.cells #[.slice a l.length c] 24)) (.cells #[.slice am m.length cm,.slice au us.length cu,.bool f] 28)
  rw [show (w.alloc (.cells #[.slice a l.length c] 24)).heap.size = w.heap.size + 1 by simp] at h2
  have k1:=(hA2.block _ (heap_lt h1)).trans h1
  have y0 : ((w.alloc (.cells #[.slice a l.length c] 24)).alloc (.cells #[.slice am m.length cm,.slice au us.length cu,.bool f] 28)).cell? ⟨w.heap.size,0,none⟩ = some (.slice a l.length c):=by rw [cell_of_row _ _ _ _ _ _ k1];rfl
  have hc:=checkC_any a c l _ (hg.below hB) (h.below hB) hlc hcm
  have hgB:=hg.below hB
  have hmB:=hm.below hB
  have huB:=hu.below hB
  obtain ⟨E,HE⟩ : ∃ E,Hid (checkC (l.map Rq.r) = E):=⟨_,rfl⟩
  rw [HE.out] at hc
  clear hA1 hA2 h1 hm hu hg h
  go_enter Tryz.func43,Tryz.ntmps43
  go_wp2_with fail
  generalize (w.alloc (.cells #[.slice a l.length c] 24)).alloc (.cells #[.slice am m.length cm,.slice au us.length cu,.bool f] 28) = W0 at *
  refine hc.mono ?_
  clear hc
  rintro e w1 ⟨rfl,hb1⟩
  have hB1:=hB.trans (hb1.mono hB.size)
  have k2:=(hb1.block _ (heap_lt h2)).trans h2
  have hg1:=hgB.below hb1
  have hm1:=hmB.below hb1
  have hu1:=huB.below hb1
  clear hb1 hB h2 k1 y0 hgB hmB huB
  by_cases he : E = 0
  case neg =>
    have HR : Hid (E = cpE (l.map Rq.r) m us up late):=by unfold Hid cpE;rw [HE.out,if_pos he]
    have he' : (E != 0) = true:=by simpa using he
    clear he HE
    go_wp2
    go_ret
    exact ⟨ret_int HR.out,hB1⟩
  have HC : Hid (checkC (l.map Rq.r) = 0):=HE.out.trans he
  subst he
  clear HE
  have z0 : w1.cell? ⟨w.heap.size + 1,0,none⟩ = some (.slice am m.length cm):=by rw [cell_of_row _ _ _ _ _ _ k2];rfl
  have z1 : w1.cell? ⟨w.heap.size + 1,1,none⟩ = some (.slice au us.length cu):=by rw [cell_of_row _ _ _ _ _ _ k2];rfl
  have z2 : w1.cell? ⟨w.heap.size + 1,2,none⟩ = some (.bool f):=by rw [cell_of_row _ _ _ _ _ _ k2];rfl
  have hp:=pcheck_any am cm m au cu us f w1 hg1 hm1 hml hu1 hul
  obtain ⟨E,HE⟩ : ∃ E,Hid (pushE m us = E):=⟨_,rfl⟩
  rw [HE.out] at hp
  clear hm1 hu1 hg1
  go_wp2_with fail
  refine hp.mono ?_
  clear hp
  rintro e w2 ⟨rfl,hb2⟩
  have hB2:=hB1.trans (hb2.mono hB1.size)
  clear hb2 hB1 z0 z1 z2 k2
  by_cases he : E = 0
  case neg =>
    have HR : Hid (E = cpE (l.map Rq.r) m us up late):=by unfold Hid cpE;rw [HE.out,if_neg (fun e=>e HC.out),if_pos he]
    have he' : (E != 0) = true:=by simpa using he
    clear he HE
    go_wp2
    go_ret
    exact ⟨ret_int HR.out,hB2⟩
  have HD : Hid (pushE m us = 0):=HE.out.trans he
  subst he
  clear HE
  have HX : Hid (cpE (l.map Rq.r) m us up late = if (bitsB up && bitsB late) = true then 0 else 3):=by unfold Hid cpE;rw [if_neg (fun e=>e HC.out),if_neg (fun e=>e HD.out)]
  have hup:=areBits_any up w2
  obtain ⟨p,HP⟩ : ∃ p,Hid (bitsB up = p):=⟨_,rfl⟩
  rw [show (decide (0 ≤ up) && decide (up < 8)) = p from HP.out] at hup
  go_wp2_with fail
  refine hup.mono ?_
  clear hup
  rintro e w3 ⟨rfl,hb3⟩
  have hB3:=hB2.trans (hb3.mono hB2.size)
  clear hb3 hB2
  cases p with
  | false =>
    have HR : Hid (3 = cpE (l.map Rq.r) m us up late):=by unfold Hid;rw [HX.out,HP.out];rfl
    clear HX HP
    go_wp2
    go_ret
    exact ⟨ret_int HR.out,hB3⟩
  | true =>
    have hla:=areBits_any late w3
    obtain ⟨q,HQ⟩ : ∃ q,Hid (bitsB late = q):=⟨_,rfl⟩
    rw [show (decide (0 ≤ late) && decide (late < 8)) = q from HQ.out] at hla
    go_wp2_with fail
    refine hla.mono ?_
    clear hla
    rintro e w4 ⟨rfl,hb4⟩
    have hB4:=hB3.trans (hb4.mono hB3.size)
    clear hb4 hB3
    cases q with
    | false =>
      have HR : Hid (3 = cpE (l.map Rq.r) m us up late):=by unfold Hid;rw [HX.out,HP.out,HQ.out];rfl
      clear HX HP HQ
      go_wp2
      go_ret
      exact ⟨ret_int HR.out,hB4⟩
    | true =>
      have HR : Hid (0 = cpE (l.map Rq.r) m us up late):=by unfold Hid;rw [HX.out,HP.out,HQ.out];rfl
      clear HX HP HQ
      go_wp2
      go_ret
      exact ⟨ret_int HR.out,hB4⟩
end

section
open Go.RowKit
set_option maxRecDepth 100000
def rowQ : List Rq → List Value
  | []=>[]
  | q :: qs=>q.cells ++ rowQ qs
theorem rowQ_append (A B : List Rq) : rowQ (A ++ B) = rowQ A ++ rowQ B:=by
  induction A with
  | nil=>rfl
  | cons r A ih=>simp [rowQ,ih,List.append_assoc]
theorem rowQ_get (A : List Rq) (i j : Nat) (hi : i < A.length) (hj : j < 7) : (rowQ A)[i * 7 + j]? = (A[i].cells)[j]?:=by
  induction A generalizing i with
  | nil=>simp at hi
  | cons r A ih =>
    cases i with
    | zero =>
      simp only [rowQ,Nat.zero_mul,Nat.zero_add,List.getElem_cons_zero]
      exact List.getElem?_append_left (by simpa [Rq.cells] using hj)
    | succ i =>
      have:=ih i (by simpa using hi)
      rw [List.getElem_cons_succ,← this]
      simp only [rowQ]
      rw [List.getElem?_append_right (by simp [Rq.cells];omega)]
      congr 1
      simp [Rq.cells];omega
def Like (z : Nat) (P : Nat → Prop) (w w' : World) : Prop:=w.heap.size ≤ w'.heap.size ∧ ∀ k,z ≤ k → k < w.heap.size → ¬ P k → w'.heap[k]? = w.heap[k]?
theorem Like.of_below {z : Nat} {P : Nat → Prop} {w w' : World} (hb : Below w.heap.size w w') : Like z P w w':=⟨hb.size,fun k _ hk _=>hb.block k hk⟩
theorem Like.of_grown {z : Nat} {B : Option Nat} {w w' : World} (hg : w.grownBy w' B) : Like z (fun k=>B = some k) w w':=⟨hg.size,fun k _ hk hn=>hg.block k hk (fun e=>hn e.symm)⟩
def Away (w : World) (z : Nat) (P : Nat → Prop) (q : Rq) : Prop:=∀ w',Like z P w w' → q.H w'
theorem Away.next {w w' : World} {z : Nat} {P P' : Nat → Prop} {q : Rq} (h : Away w z P q) (hg : Like z P w w') (hf : ∀ k,k < w.heap.size → P' k → P k) : Away w' z P' q:=fun w2 h2 =>
  h w2 ⟨Nat.le_trans hg.1 h2.1,fun k hz hk hn=>(h2.2 k hz (Nat.lt_of_lt_of_le hk hg.1) (fun e=>hn (hf k hk e))).trans (hg.2 k hz hk hn)⟩
theorem Away.self {w : World} {z : Nat} {P : Nat → Prop} {q : Rq} (h : Away w z P q) : q.H w:=h w ⟨Nat.le_refl _,fun _ _ _ _=>rfl⟩
theorem Away.below {w w' : World} {z : Nat} {P : Nat → Prop} {q : Rq} (h : Away w z P q) (hb : Below w.heap.size w w') : Away w' z P q:=h.next (Like.of_below hb) (fun _ _ e=>e)
theorem Away.fresh {w : World} {z z' : Nat} {P : Nat → Prop} {q : Rq} (h : RepF w z' q.aS q.cs q.r.s q.al q.cl q.r.l q.a1 q.c1 q.r.m q.a2 q.c2 q.r.us) (hz : z ≤ z') (hP : ∀ k,P k → k < z') : Away w z P q:=fun w' hg=>by
  have hf:=h.fr.kept hg.1 (fun k hk1 hk2=>hg.2 k (Nat.le_trans hz hk1) hk2 (fun e=>by have:=hP k e;omega))
  have hh:=hf.holds
  exact ⟨hh.1,hh.2.1,hh.2.2.1,hh.2.2.2,h.h.ns,h.h.nl,h.h.nm,h.h.nu⟩
structure Qs (w : World) (z : Nat) (v : Value) (qs : List Rq) : Prop where
  own : w.ownsRow z 36 7 v qs.length (rowQ qs)
  each : ∀ q ∈ qs,Away w z (fun k=>v.ownBlock = some k) q
theorem Qs.below {w w' : World} {z : Nat} {v : Value} {qs : List Rq} (h : Qs w z v qs) (hb : Below w.heap.size w w') : Qs w' z v qs :=
  ⟨ownsRow_below h.own hb,fun q hq=>(h.each q hq).below hb⟩
theorem Qs.keep {w w' : World} {z : Nat} {v : Value} {qs : List Rq} (h : Qs w z v qs) (hs : w.heap.size ≤ w'.heap.size) (hk : ∀ k,z ≤ k → w'.heap[k]? = w.heap[k]?) : Qs w' z v qs :=
  ⟨ownsRow_high h.own hk,fun q hq=>(h.each q hq).next ⟨hs,fun k hz _ _=>hk k hz⟩ (fun _ _ e=>e)⟩
theorem Qs.from {w : World} {z z' : Nat} {v : Value} {qs : List Rq} (h : Qs w z v qs) (hz : z' ≤ z) : Qs w z' v qs :=
  ⟨ownsRow_from h.own hz,fun q hq w' hl=>h.each q hq w' ⟨hl.1,fun k hk=>hl.2 k (Nat.le_trans hz hk)⟩⟩
theorem Tryz.info36 : (Tryz.prog.info? 36).map (fun i=>(i.zero,i.size,i.bytes)) = some (some (.agg #[.slice none 0 0,.slice none 0 0,.int .i64 0,.int .i64 0,.slice none 0 0,.slice none 0 0,.bool false]),7,120):=by kernel_rfl
theorem app_ownQ (w : World) (base : Nat) (ty : TypeId) (v : Value) (n : Nat) (xs : List Value) (hown : w.ownsRow base 36 7 v n xs) (vb : Nat) (ys : Array Value) (hv : w.heap[vb]? = some (.cells ys 36)) (hys : ys.size = 7)
    (h2 : ∀ v ∈ ys.toList,v.oneCell' = true) (hn : n ≤ 1000) (hbase : base ≤ w.heap.size) :
    ∃ v' w',(Builtin.append_ #[22,22] ty #[v,.slice (some ⟨vb,0,none⟩) 1 1]).run Tryz.prog w = .ok v' w' ∧ w'.ownsRow base 36 7 v' (n + 1) (xs ++ ys.toList) ∧ w.grownBy w' v.ownBlock ∧ ∀ k,v'.ownBlock = some k → v.ownBlock = some k ∨ w.heap.size ≤ k:=by
  obtain ⟨i0,hi0,hz0,hzs,hzb⟩:=info_parts Tryz.info36
  have hl : ys.toList.length = 1 * 7:=by rw [Array.length_toList,hys]
  have hnews:=World.news_of_block hv
  obtain ⟨v',w',hr,q1,q2,_⟩:=run_append_own (P:=Tryz.prog) w base 22 ty 36 i0 _ 7 120 Tryz.underlying22 hi0 hz0 hzs hzb rfl (by omega) v n xs hown ⟨vb,0,none⟩ 1 1 ys.toList hl hnews h2 (by unfold maxLen;omega) (by omega) hbase
  refine ⟨v',w',hr,q1,q2,?_⟩
  rcases hown.2 with ⟨rfl,rfl⟩ | ⟨g,cap,cur,rfl,hbg,hg,hnc,hcm,hcs,htake⟩
  · obtain ⟨v2, w2, hr2, p1, _, _⟩ := run_append_own (P := Tryz.prog) w w.heap.size 22 ty 36 i0 _ 7 120 Tryz.underlying22 hi0 hz0 hzs hzb rfl (by omega) _ 0 [] (World.ownsRow_nil _ _ _ _) ⟨vb, 0, none⟩ 1 1 ys.toList hl hnews h2 (by unfold maxLen; omega) (by omega) (Nat.le_refl _)
    rw [hr] at hr2
    cases hr2
    exact fun k hk=>.inr (p1.lt k hk).1
  · by_cases hroom : n + 1 ≤ cap
    · have hr2 := run_append_room (P := Tryz.prog) w 22 ty 36 i0 Tryz.underlying22 hi0 g n cap cur hg ⟨vb, 0, none⟩ 1 1 ys.toList (by rw [hzs]; exact hl) hnews h2 hroom (by rw [hzs, hl]; omega)
      rw [hr] at hr2
      cases hr2
      exact fun k hk=>.inl hk
    · have hr2 := run_append_grow (P := Tryz.prog) w 22 ty 36 i0 _ Tryz.underlying22 hi0 hz0 ⟨g, 0, none⟩ n cap xs (by rw [hzs]; exact hown.1) (hown.cells (g := g) rfl) ⟨vb, 0, none⟩ 1 1 ys.toList (by rw [hzs]; exact hl) hnews (by omega) (by omega) (by rw [hzb]; exact growslice_fits (by omega) (by omega))
      rw [hr] at hr2
      cases hr2
      exact fun k hk=>.inr (by simp [Value.ownBlock] at hk;omega)
theorem own_sliceQ {w : World} {base : Nat} {v : Value} {n : Nat} {xs : List Value} (h : w.ownsRow base 36 7 v n xs) : ∃ g m c,v = .slice g m c:=by
  rcases h.2 with ⟨e,_⟩ | ⟨g,cap,_,e,_⟩
  · exact ⟨_,_,_,e⟩
  · exact ⟨_,_,_,e⟩
set_option maxHeartbeats 2000000 in
theorem copyC_any (a : Option Addr) (c : Nat) (l : List Rq) (w : World) (h : HoldsQ w a l) (hl : l.length ≤ 1000) (hE : ∀ q ∈ l,q.r.err = 0) :
    Calls Tryz.prog 44 #[.agg #[.slice a l.length c]] w fun e w'=>∃ v qs,e = .returned (.agg #[v]) ∧ qs.map Rq.r = l.map Rq.r ∧ Qs w' w.heap.size v qs ∧ Below w.heap.size w w':=by
  obtain ⟨hk1,hk2,hk3,hB⟩:=three_blocks w (.cells #[.slice a l.length c] 24) (.cells #[.slice none 0 0] 24) (.cells #[.slice none 0 0] 24)
  have y0 : (((w.alloc (.cells #[.slice a l.length c] 24)).alloc (.cells #[.slice none 0 0] 24)).alloc (.cells #[.slice none 0 0] 24)).cell? ⟨w.heap.size,0,none⟩ = some (.slice a l.length c):=by rw [cell_of_row _ _ _ _ _ _ hk1];rfl
  have hs0 : w.heap.size + 2 < (((w.alloc (.cells #[.slice a l.length c] 24)).alloc (.cells #[.slice none 0 0] 24)).alloc (.cells #[.slice none 0 0] 24)).heap.size:=heap_lt hk3
  go_enter Tryz.func44,Tryz.ntmps44
  go_wp2_with fail
  generalize ((w.alloc (.cells #[.slice a l.length c] 24)).alloc (.cells #[.slice none 0 0] 24)).alloc (.cells #[.slice none 0 0] 24) = W0 at *
  have S0 : Qs W0 W0.heap.size (.slice none 0 0) []:=⟨World.ownsRow_nil _ _ _ _,fun q hq=>by cases hq⟩
  go_loopw [9] (fun i wr=>∃ (k : Nat) (v : Value) (qs : List Rq),i = .int .i64 k ∧ k ≤ l.length ∧ Hid (qs.map Rq.r = (l.map Rq.r).take k) ∧ Qs wr W0.heap.size v qs ∧ wr.heap[w.heap.size + 2]? = some (.cells #[v] 24) ∧ wr.heap[w.heap.size + 1]? = some (.cells #[.slice none 0 0] 24) ∧ Below w.heap.size w wr ∧ W0.heap.size ≤ wr.heap.size) (fun i _=>l.length - (intOf i).toNat)
  case atStart=>exact ⟨0,_,[],rfl,Nat.zero_le _,rfl,S0,hk3,hk2,hB,Nat.le_refl _⟩
  case round =>
    clear S0 hk1 hk2 hk3 y0
    obtain ⟨k,v,qs,rfl,hk,HM,SQ,kv,kz,HB,hsz⟩:=hrel
    obtain ⟨g0,m0,c0,rfl⟩:=own_sliceQ SQ.own
    by_cases hlt : k < l.length
    · obtain ⟨b, off, rfl, hb, hc⟩ := (h.below HB) k hlt
      obtain ⟨⟨x0,x1,x2,x3,x4,x5,x6⟩,hH⟩:=hc k hlt
      have hq:=hE l[k] (List.getElem_mem hlt)
      obtain ⟨n1,n2,n3,n4,n5,n6⟩:=rep_small hq
      have hA:=below_alloc wr l[k].blk
      have hn0:=heap_alloc_new wr l[k].blk
      have SA:=SQ.below hA
      have kvA:=(hA.block _ (heap_lt kv)).trans kv
      have kzA:=(hA.block _ (heap_lt kz)).trans kz
      have HBA:=HB.trans (hA.mono HB.size)
      have hHA:=RepH.below hH hA
      have hszA:=Nat.le_trans hsz hA.size
      obtain ⟨z0,z1,z2,z3,z4,z5,z6⟩:=c7_of hn0
      have hvl : ∀ j,(Value.slice g0 m0 c0).ownBlock = some j → j < (wr.alloc l[k].blk).heap.size:=fun j e=>Nat.lt_of_lt_of_le (SQ.own.lt j e).2 hA.size
      have hvr : ∀ j,(Value.slice g0 m0 c0).ownBlock = some j → j < wr.heap.size:=fun j e=>(SQ.own.lt j e).2
      clear hc hA SQ
      go_wp2_with fail
      generalize wr.alloc l[k].blk = W at *
      have hdr:=(Below.refl W.heap.size W).drew
      have SD:=SA.below hdr
      have kvD : W.drew.heap[w.heap.size + 2]? = some (.cells #[.slice g0 m0 c0] 24):=kvA
      have kzD : W.drew.heap[w.heap.size + 1]? = some (.cells #[.slice none 0 0] 24):=kzA
      have knD : W.drew.heap[wr.heap.size]? = some l[k].blk:=hn0
      have HBD:=HBA.trans (hdr.mono HBA.size)
      have hHD:=RepH.below hHA hdr
      have hszD : W0.heap.size ≤ W.drew.heap.size:=hszA
      have hvD : ∀ j,(Value.slice g0 m0 c0).ownBlock = some j → j < W.drew.heap.size:=hvl
      have yv : W.drew.cell? ⟨w.heap.size + 2,0,none⟩ = some (.slice g0 m0 c0):=by rw [cell_of_row _ _ _ _ _ _ kvD];rfl
      have hS0 : W.drew.cell? ⟨w.heap.size + 2,0,none⟩ = some (.slice g0 m0 c0) ∧ (W.drew.cell? ⟨wr.heap.size,0,none⟩ = some (.slice l[k].aS l[k].r.s.length l[k].cs) ∧ W.drew.cell? ⟨wr.heap.size,1,none⟩ = some (.slice l[k].al l[k].r.l.length l[k].cl) ∧ W.drew.cell? ⟨wr.heap.size,2,none⟩ = some (.int .i64 l[k].r.g) ∧ W.drew.cell? ⟨wr.heap.size,3,none⟩ = some (.int .i64 l[k].r.ph) ∧ W.drew.cell? ⟨wr.heap.size,4,none⟩ = some (.slice l[k].a1 l[k].r.m.length l[k].c1) ∧ W.drew.cell? ⟨wr.heap.size,5,none⟩ = some (.slice l[k].a2 l[k].r.us.length l[k].c2) ∧ W.drew.cell? ⟨wr.heap.size,6,none⟩ = some (.bool l[k].r.f)):=⟨yv,c7_of knD⟩
      refine wp_region_E (fun W=>W.cell? ⟨w.heap.size + 2,0,none⟩ = some (.slice g0 m0 c0) ∧ (W.cell? ⟨wr.heap.size,0,none⟩ = some (.slice l[k].aS l[k].r.s.length l[k].cs) ∧ W.cell? ⟨wr.heap.size,1,none⟩ = some (.slice l[k].al l[k].r.l.length l[k].cl) ∧ W.cell? ⟨wr.heap.size,2,none⟩ = some (.int .i64 l[k].r.g) ∧ W.cell? ⟨wr.heap.size,3,none⟩ = some (.int .i64 l[k].r.ph) ∧ W.cell? ⟨wr.heap.size,4,none⟩ = some (.slice l[k].a1 l[k].r.m.length l[k].c1) ∧ W.cell? ⟨wr.heap.size,5,none⟩ = some (.slice l[k].a2 l[k].r.us.length l[k].c2) ∧ W.cell? ⟨wr.heap.size,6,none⟩ = some (.bool l[k].r.f))) (fun k=>k == 7) (by kernel_rfl) hS0 (fun hS=>?_)
      generalize W.drew = W1 at *
      clear hS0 yv hdr SA kvA kzA hn0 HBA hHA hszA hvl x0 x1 x2 x3 x4 x5 x6 z0 z1 z2 z3 z4 z5 z6
      refine wpAnyE.take (i:=0) (v:=?_) rfl (by kernel_rfl) (by kernel_rfl) (by kernel_rfl) (by kernel_rfl) (fun _ _ _ h=>h) (Or.inl ⟨by rfl,?_⟩) (by assumption) ?_
      rotate_left
      · intro w hSw;obtain ⟨s0,r0,r1,r2,r3,r4,r5,r6⟩:=hSw;go_simp;with_reducible rfl
      try simp only [Act.put,uA,uC,uD,uE,uF]
      refine wpAnyE.take (i:=1) (v:=?_) rfl (by kernel_rfl) (by kernel_rfl) (by kernel_rfl) (by kernel_rfl) (fun _ _ _ h=>h) (Or.inl ⟨by rfl,?_⟩) (by assumption) ?_
      rotate_left
      · intro w hSw;obtain ⟨s0,r0,r1,r2,r3,r4,r5,r6⟩:=hSw;go_simp;with_reducible rfl
      try simp only [Act.put,uA,uB,uC,uD,uE,uF]
      refine wpAnyE.take (i:=2) (v:=?_) rfl (by kernel_rfl) (by kernel_rfl) (by kernel_rfl) (by kernel_rfl) (fun _ _ _ h=>h) (Or.inl ⟨by rfl,?_⟩) (by assumption) ?_
      rotate_left
      · intro w hSw;obtain ⟨s0,r0,r1,r2,r3,r4,r5,r6⟩:=hSw;go_simp;with_reducible rfl
      try simp only [Act.put,uA,uB,uC,uD,uE,uF]
      refine wpAnyE.one (i:=3) (by kernel_rfl) rfl (fun K hK=>?_)
      go_simp
      refine (copyRep_any l[k].aS l[k].cs l[k].r.s l[k].al l[k].cl l[k].r.l l[k].r.g l[k].r.ph l[k].a1 l[k].c1 l[k].r.m l[k].a2 l[k].c2 l[k].r.us l[k].r.f W1 hHD.hs (by omega) n2 hHD.hl (by omega) hHD.hm (by omega) n5 hHD.hu (by omega)).mono ?_
      rintro e W2 ⟨b0,d0,b1,d1,b2,d2,b3,d3,rfl,F2,hb2⟩
      have kv2:=(hb2.block _ (heap_lt kvD)).trans kvD
      have kz2:=(hb2.block _ (heap_lt kzD)).trans kzD
      have kn2:=(hb2.block _ (heap_lt knD)).trans knD
      have S2:=SD.below hb2
      have HB2:=HBD.trans (hb2.mono HBD.size)
      have yv2 : W2.cell? ⟨w.heap.size + 2,0,none⟩ = some (.slice g0 m0 c0):=by rw [cell_of_row _ _ _ _ _ _ kv2];rfl
      have hS2 : W2.cell? ⟨w.heap.size + 2,0,none⟩ = some (.slice g0 m0 c0) ∧ (W2.cell? ⟨wr.heap.size,0,none⟩ = some (.slice l[k].aS l[k].r.s.length l[k].cs) ∧ W2.cell? ⟨wr.heap.size,1,none⟩ = some (.slice l[k].al l[k].r.l.length l[k].cl) ∧ W2.cell? ⟨wr.heap.size,2,none⟩ = some (.int .i64 l[k].r.g) ∧ W2.cell? ⟨wr.heap.size,3,none⟩ = some (.int .i64 l[k].r.ph) ∧ W2.cell? ⟨wr.heap.size,4,none⟩ = some (.slice l[k].a1 l[k].r.m.length l[k].c1) ∧ W2.cell? ⟨wr.heap.size,5,none⟩ = some (.slice l[k].a2 l[k].r.us.length l[k].c2) ∧ W2.cell? ⟨wr.heap.size,6,none⟩ = some (.bool l[k].r.f)):=⟨yv2,c7_of kn2⟩
      have hh2:=F2.holds
      have hF2 : RepF W2 W1.heap.size b0 d0 l[k].r.s b1 d1 l[k].r.l b2 d2 l[k].r.m b3 d3 l[k].r.us:=⟨⟨hh2.1,hh2.2.1,hh2.2.2.1,hh2.2.2.2,hHD.ns,hHD.nl,hHD.nm,hHD.nu⟩,F2⟩
      have hs12:=hb2.size
      refine hK _ _ (fun _=>hS2) ?_
      clear hK K hS yv2 hb2 kvD kzD knD SD HBD F2 hh2 hHD
      try simp only [Act.put,uA,uB,uC,uD,uE,uF]
      refine wpAnyE.one (i:=4) (by kernel_rfl) rfl (fun K hK=>?_)
      obtain ⟨q,hqd⟩ : ∃ q : Rq,q = ⟨l[k].r,b0,d0,b1,d1,b2,d2,b3,d3⟩:=⟨_,rfl⟩
      have hA3:=below_alloc W2 (.cells #[.slice b0 l[k].r.s.length d0,.slice b1 l[k].r.l.length d1,.int .i64 l[k].r.g,.int .i64 l[k].r.ph,.slice b2 l[k].r.m.length d2,.slice b3 l[k].r.us.length d3,.bool l[k].r.f] 36)
      have kb3:=heap_alloc_new W2 (.cells #[.slice b0 l[k].r.s.length d0,.slice b1 l[k].r.l.length d1,.int .i64 l[k].r.g,.int .i64 l[k].r.ph,.slice b2 l[k].r.m.length d2,.slice b3 l[k].r.us.length d3,.bool l[k].r.f] 36)
      have kv3:=(hA3.block _ (heap_lt kv2)).trans kv2
      have kz3:=(hA3.block _ (heap_lt kz2)).trans kz2
      have kn3:=(hA3.block _ (heap_lt kn2)).trans kn2
      have S3:=S2.below hA3
      have HB3:=HB2.trans (hA3.mono HB2.size)
      have hF3:=hF2.below hA3
      have yv3:=(hA3.cell (p:=⟨w.heap.size + 2,0,none⟩) (heap_lt kv2)).trans hS2.1
      have hS3 : (W2.alloc (.cells #[.slice b0 l[k].r.s.length d0,.slice b1 l[k].r.l.length d1,.int .i64 l[k].r.g,.int .i64 l[k].r.ph,.slice b2 l[k].r.m.length d2,.slice b3 l[k].r.us.length d3,.bool l[k].r.f] 36)).cell? ⟨w.heap.size + 2,0,none⟩ = some (.slice g0 m0 c0) ∧ ((W2.alloc (.cells #[.slice b0 l[k].r.s.length d0,.slice b1 l[k].r.l.length d1,.int .i64 l[k].r.g,.int .i64 l[k].r.ph,.slice b2 l[k].r.m.length d2,.slice b3 l[k].r.us.length d3,.bool l[k].r.f] 36)).cell? ⟨wr.heap.size,0,none⟩ = some (.slice l[k].aS l[k].r.s.length l[k].cs) ∧ (W2.alloc (.cells #[.slice b0 l[k].r.s.length d0,.slice b1 l[k].r.l.length d1,.int .i64 l[k].r.g,.int .i64 l[k].r.ph,.slice b2 l[k].r.m.length d2,.slice b3 l[k].r.us.length d3,.bool l[k].r.f] 36)).cell? ⟨wr.heap.size,1,none⟩ = some (.slice l[k].al l[k].r.l.length l[k].cl) ∧ (W2.alloc (.cells #[.slice b0 l[k].r.s.length d0,.slice b1 l[k].r.l.length d1,.int .i64 l[k].r.g,.int .i64 l[k].r.ph,.slice b2 l[k].r.m.length d2,.slice b3 l[k].r.us.length d3,.bool l[k].r.f] 36)).cell? ⟨wr.heap.size,2,none⟩ = some (.int .i64 l[k].r.g) ∧ (W2.alloc (.cells #[.slice b0 l[k].r.s.length d0,.slice b1 l[k].r.l.length d1,.int .i64 l[k].r.g,.int .i64 l[k].r.ph,.slice b2 l[k].r.m.length d2,.slice b3 l[k].r.us.length d3,.bool l[k].r.f] 36)).cell? ⟨wr.heap.size,3,none⟩ = some (.int .i64 l[k].r.ph) ∧ (W2.alloc (.cells #[.slice b0 l[k].r.s.length d0,.slice b1 l[k].r.l.length d1,.int .i64 l[k].r.g,.int .i64 l[k].r.ph,.slice b2 l[k].r.m.length d2,.slice b3 l[k].r.us.length d3,.bool l[k].r.f] 36)).cell? ⟨wr.heap.size,4,none⟩ = some (.slice l[k].a1 l[k].r.m.length l[k].c1) ∧ (W2.alloc (.cells #[.slice b0 l[k].r.s.length d0,.slice b1 l[k].r.l.length d1,.int .i64 l[k].r.g,.int .i64 l[k].r.ph,.slice b2 l[k].r.m.length d2,.slice b3 l[k].r.us.length d3,.bool l[k].r.f] 36)).cell? ⟨wr.heap.size,5,none⟩ = some (.slice l[k].a2 l[k].r.us.length l[k].c2) ∧ (W2.alloc (.cells #[.slice b0 l[k].r.s.length d0,.slice b1 l[k].r.l.length d1,.int .i64 l[k].r.g,.int .i64 l[k].r.ph,.slice b2 l[k].r.m.length d2,.slice b3 l[k].r.us.length d3,.bool l[k].r.f] 36)).cell? ⟨wr.heap.size,6,none⟩ = some (.bool l[k].r.f)):=⟨yv3,c7_of kn3⟩
      have hs23:=hA3.size
      go_simp
      refine hK _ _ (fun _=>hS3) ?_
      clear hK K yv3 hS2 kv2 kz2 kn2 S2 HB2 hF2 hA3
      try simp only [Act.put,uA,uB,uC,uD,uE,uF]
      generalize hW3 : W2.alloc (.cells #[.slice b0 l[k].r.s.length d0,.slice b1 l[k].r.l.length d1,.int .i64 l[k].r.g,.int .i64 l[k].r.ph,.slice b2 l[k].r.m.length d2,.slice b3 l[k].r.us.length d3,.bool l[k].r.f] 36) = W3 at *
      have hql : qs.length = k:=by have:=congrArg List.length HM.out;rw [List.length_map,List.length_take,List.length_map] at this;omega
      have hzW : W0.heap.size ≤ W3.heap.size:=by omega
      obtain ⟨v',W4,hr4,ho4,hg4,hf4⟩:=app_ownQ W3 W0.heap.size 22 _ qs.length (rowQ qs) S3.own W2.heap.size _ kb3 rfl (by intro u hu;simp only [List.mem_cons,List.not_mem_nil,or_false] at hu;rcases hu with rfl | rfl | rfl | rfl | rfl | rfl | rfl <;> rfl) (by omega) hzW
      obtain ⟨g',m',c',rfl⟩:=own_sliceQ ho4
      have hne : ∀ x,x < W0.heap.size → some x ≠ (Value.slice g0 m0 c0).ownBlock:=fun x hx e=>by have:=(S3.own.lt x e.symm).1;omega
      have kv4:=(hg4.block (w.heap.size + 2) (heap_lt kv3) (hne _ hs0)).trans kv3
      have kz4:=(hg4.block (w.heap.size + 1) (heap_lt kz3) (hne _ (by omega))).trans kz3
      have HB4 : Below w.heap.size w W4:=⟨hg4.os.trans HB3.os,hg4.tape.trans HB3.tape,hg4.output.trans HB3.output,Nat.le_trans HB3.size hg4.size,fun x hx=>(hg4.block x (Nat.lt_of_lt_of_le hx HB3.size) (hne _ (by omega))).trans (HB3.block x hx)⟩
      have kn4:=(hg4.block wr.heap.size (heap_lt kn3) (fun e=>by have:=hvr _ e.symm;omega)).trans kn3
      have NQ : Qs W4 W0.heap.size (.slice g' m' c') (qs ++ [q]):=by
        refine ⟨?_,?_⟩
        · rw [List.length_append,rowQ_append];subst hqd;exact ho4
        · intro x hx
          rcases List.mem_append.1 hx with p | p
          · exact (S3.each x p).next (Like.of_grown hg4) (fun j hj e=>by rcases hf4 j e with t | t;exact t;omega)
          · have : x = q := List.mem_singleton.1 p
            subst this;subst hqd
            exact (Away.fresh (z:=W0.heap.size) (z':=W1.heap.size) hF3 hszD hvD).next (Like.of_grown hg4) (fun j hj e=>by rcases hf4 j e with t | t;exact t;omega)
      have HM' : Hid ((qs ++ [q]).map Rq.r = (l.map Rq.r).take (k + 1)):=by
        unfold Hid
        rw [List.map_append,HM.out,List.take_succ_eq_append_getElem (by simpa using hlt)]
        subst hqd;simp
      have y4 : W4.cell? ⟨w.heap.size + 2,0,none⟩ = some (.slice g0 m0 c0):=by rw [cell_of_row _ _ _ _ _ _ kv4];rfl
      have hsz4:=Nat.le_trans hzW hg4.size
      have hS4 : W4.cell? ⟨w.heap.size + 2,0,none⟩ = some (.slice g0 m0 c0) ∧ (W4.cell? ⟨wr.heap.size,0,none⟩ = some (.slice l[k].aS l[k].r.s.length l[k].cs) ∧ W4.cell? ⟨wr.heap.size,1,none⟩ = some (.slice l[k].al l[k].r.l.length l[k].cl) ∧ W4.cell? ⟨wr.heap.size,2,none⟩ = some (.int .i64 l[k].r.g) ∧ W4.cell? ⟨wr.heap.size,3,none⟩ = some (.int .i64 l[k].r.ph) ∧ W4.cell? ⟨wr.heap.size,4,none⟩ = some (.slice l[k].a1 l[k].r.m.length l[k].c1) ∧ W4.cell? ⟨wr.heap.size,5,none⟩ = some (.slice l[k].a2 l[k].r.us.length l[k].c2) ∧ W4.cell? ⟨wr.heap.size,6,none⟩ = some (.bool l[k].r.f)):=⟨y4,c7_of kn4⟩
      clear hS3 kv3 kz3 kn3 S3 HB3 hF3 kb3 hvD hszD hvr ho4
      refine wpAnyE.one (i:=5) (by kernel_rfl) rfl (fun K hK=>?_)
      refine step_append_g (by rfl) (.tmp 14) (.tmp 17) (by rfl) _ _ (by rfl) (by rfl) hr4 ?_
      refine hK _ _ (fun _=>hS4) ?_
      clear hK K hr4 hg4 hf4
      try simp only [Act.put,uA,uB,uC,uD,uE,uF]
      refine wpAnyE.one (i:=6) (by kernel_rfl) rfl (fun K hK=>?_)
      go_simp
      refine hK _ _ (fun _=>hS4) ?_
      clear hK K
      try simp only [Act.put,uA,uB,uC,uD,uE,uF]
      refine wpAnyE.one (i:=7) (by kernel_rfl) rfl (fun K hK=>?_)
      have f4:=f_of (o:=0) kv4
      have s5:=heap_setCell_same W4 (w.heap.size + 2) 0 _ 24 (.slice g' m' c') kv4
      have k5 : (W4.setCell ⟨w.heap.size + 2,0,none⟩ (.slice g' m' c')).heap[w.heap.size + 2]? = some (.cells #[.slice g' m' c'] 24):=by simpa using s5
      have kz5:=(heap_setCell_other W4 ⟨w.heap.size + 2,0,none⟩ (w.heap.size + 1) (.slice g' m' c') (by simp)).trans kz4
      have N5:=NQ.keep (setcell_size W4 ⟨w.heap.size + 2,0,none⟩ (.slice g' m' c')) (setcell_high W4 (w.heap.size + 2) 0 W0.heap.size (.slice g' m' c') hs0)
      have HB5 : Below w.heap.size w (W4.setCell ⟨w.heap.size + 2,0,none⟩ (.slice g' m' c')):=HB4.setCell (by show w.heap.size ≤ w.heap.size + 2;omega) _
      have hsz5 : W0.heap.size ≤ (W4.setCell ⟨w.heap.size + 2,0,none⟩ (.slice g' m' c')).heap.size:=Nat.le_trans hsz4 (setcell_size _ _ _)
      go_simp
      refine hK _ _ (fun e=>by cases e) ?_
      clear hK K s5 NQ HB4 hsz4 kz4 kv4 y4 f4 hS4 kn4
      try simp only [Act.put,uA,uB,uC,uD,uE,uF]
      refine wpAnyE.done (by kernel_rfl) ?_
      go_wp2
      go_roundw
      case rel=>exact ⟨k + 1,_,_,by go_num,by omega,HM',N5,k5,kz5,HB5,hsz5⟩
      case measure=>simp [intOf];omega
    · have HMM : Hid (qs.map Rq.r = l.map Rq.r) := by unfold Hid; rw [HM.out, List.take_of_length_le (by simpa using hlt)]
      have yv : wr.cell? ⟨w.heap.size + 2,0,none⟩ = some (.slice g0 m0 c0):=by rw [cell_of_row _ _ _ _ _ _ kv];rfl
      have yz : wr.cell? ⟨w.heap.size + 1,0,none⟩ = some (.slice none 0 0):=by rw [cell_of_row _ _ _ _ _ _ kz];rfl
      have fz:=f_of (o:=0) kz
      have s5:=heap_setCell_same wr (w.heap.size + 1) 0 _ 24 (.slice g0 m0 c0) kz
      have k5 : (wr.setCell ⟨w.heap.size + 1,0,none⟩ (.slice g0 m0 c0)).heap[w.heap.size + 1]? = some (.cells #[.slice g0 m0 c0] 24):=by simpa using s5
      have y5 : (wr.setCell ⟨w.heap.size + 1,0,none⟩ (.slice g0 m0 c0)).cell? ⟨w.heap.size + 1,0,none⟩ = some (.slice g0 m0 c0):=by rw [cell_of_row _ _ _ _ _ _ k5];rfl
      have N5 : Hid (_ ∧ _):=⟨(SQ.keep (setcell_size wr ⟨w.heap.size + 1,0,none⟩ (.slice g0 m0 c0)) (setcell_high wr (w.heap.size + 1) 0 W0.heap.size (.slice g0 m0 c0) (by omega))).from (z':=w.heap.size) (by omega),(HB.setCell (p:=⟨w.heap.size + 1,0,none⟩) (by show w.heap.size ≤ w.heap.size + 1;omega) (.slice g0 m0 c0))⟩
      clear HM s5 k5 SQ HB kv kz hsz
      go_wp2
      refine bodyPost_ret (v:=.agg #[.slice g0 m0 c0]) (by simp [results,Tryz.results44,go_sem,y5]) rfl ?_
      exact ⟨_,qs,rfl,HMM.out,N5.out.1,N5.out.2⟩
end
end Go.Proofs.YtehmlpkapjdhkaaGreatDoor
