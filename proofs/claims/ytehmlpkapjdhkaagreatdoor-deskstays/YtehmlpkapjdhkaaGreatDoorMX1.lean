import Derived.Test.YtehmlpkapjdhkaaGreatDoorMG
import Derived.Test.YtehmlpkapjdhkaaGreatDoorML4
namespace Go.Proofs.YtehmlpkapjdhkaaGreatDoor
section
open Go.RowKit
set_option maxRecDepth 100000
def missL (a b : List Ob) : List Ob:=a.filter (fun o=>decide (placeI b o.id < 0))
def dupE (b : List Ob) : List Ob → Int
  | []=>0
  | o :: r=>if takeE b o ≠ 0 then takeE b o else dupE b r
def diffE (a b : List Ob) : Int:=if checkS a ≠ 0 then checkS a else if checkS b ≠ 0 then checkS b else dupE b a
theorem dupE_zero {b : List Ob} : ∀ {a : List Ob},dupE b a = 0 ↔ ∀ o ∈ a,takeE b o = 0
  | []=>by simp [dupE]
  | o :: r => by
    unfold dupE
    by_cases h : takeE b o = 0
    · rw [if_neg (fun e=>e h),dupE_zero];simp [h]
    · rw [if_pos h];simp [h]
theorem diffE_zero {a b : List Ob} : diffE a b = 0 ↔ checkS a = 0 ∧ checkS b = 0 ∧ dupE b a = 0:=by
  unfold diffE
  by_cases h1 : checkS a = 0
  · rw [if_neg (fun e => e h1)]
    by_cases h2 : checkS b = 0
    · rw [if_neg (fun e=>e h2)];simp [h1,h2]
    · rw [if_pos h2];simp [h2]
  · rw [if_pos h1];simp [h1]
theorem takeE_zero {b : List Ob} (hr : Rises b) {o : Ob} : takeE b o = 0 ↔ ∀ y ∈ b,y.id = o.id → y = o:=by
  rcases placeI_cases b o.id with c | ⟨i,c,hi⟩
  · have h0 : takeE b o = 0:=by
      unfold takeE
      rw [c]
      split
      · rw [if_pos rfl]
      · rfl
    refine ⟨fun _ y hy e=>?_,fun _=>h0⟩
    have:=place_mem.2 ⟨y,hy,e⟩
    omega
  · rw [takeE_hit c hi]
    obtain ⟨_,hid⟩:=placeI_get c
    constructor
    · intro h y hy e
      have : b[i] = o:=by
        cases hs : sameO b[i].id b[i].kind b[i].links b[i].text o.id o.kind o.links o.text with
        | true=>exact sameO_eq hs
        | false=>rw [hs] at h;cases h
      rw [← this]
      exact rises_one hr hy (List.getElem_mem hi) (by rw [e,hid])
    · intro h
      rw [h b[i] (List.getElem_mem hi) hid,sameO_refl];rfl
theorem dupE_agree {a b : List Ob} (ha : Rises a) (hb : Rises b) : dupE b a = 0 ↔ Agree (b ++ a):=by
  rw [dupE_zero]
  constructor
  · intro h x hx y hy e
    rcases List.mem_append.1 hx with hx | hx <;> rcases List.mem_append.1 hy with hy | hy
    · exact rises_one hb hx hy e
    · exact (takeE_zero hb).1 (h y hy) x hx e
    · exact ((takeE_zero hb).1 (h x hx) y hy e.symm).symm
    · exact rises_one ha hx hy e
  · intro h o ho
    exact (takeE_zero hb).2 fun y hy e=>h y (List.mem_append_left _ hy) o (List.mem_append_right _ ho) e
theorem missL_mem {a b : List Ob} {x : Ob} : x ∈ missL a b ↔ x ∈ a ∧ placeI b x.id < 0:=by simp [missL]
theorem missL_sub {a b : List Ob} : ∀ x ∈ missL a b,x ∈ a:=fun _ h=>(missL_mem.1 h).1
theorem missL_rises {a b : List Ob} (h : Rises a) : Rises (missL a b):=List.Pairwise.filter _ h
theorem missL_length (a b : List Ob) : (missL a b).length ≤ a.length:=List.length_filter_le _ _
theorem miss_in {a b : List Ob} (hg : Agree (b ++ a)) {x : Ob} (hx : x ∈ a) : x ∈ b ∨ x ∈ missL a b:=by
  by_cases h : placeI b x.id < 0
  · exact .inr (missL_mem.2 ⟨hx,h⟩)
  · obtain ⟨y, hy, e⟩ := place_mem.1 (by omega : 0 ≤ placeI b x.id)
    exact .inl (by rw [hg x (List.mem_append_right _ hx) y (List.mem_append_left _ hy) e.symm];exact hy)
theorem Agree.sub {l m : List Ob} (h : Agree l) (hs : ∀ x ∈ m,x ∈ l) : Agree m:=fun x hx y hy e=>h x (hs x hx) y (hs y hy) e
theorem right_of {U : List Ob} (hr : Rises U) (hl : U.length ≤ 40) (h : ∀ x ∈ U,∃ A,checkS A = 0 ∧ x ∈ A ∧ ∀ y ∈ A,y.id < x.id → y ∈ U) : checkS U = 0:=by
  refine checkS_iff.2 ⟨hl,fun x hx=>?_,hr⟩
  obtain ⟨A,hA,hxA,hin⟩:=h x hx
  refine ⟨checkS_err hA x hxA,(linkS_iff _ 0).2 fun j hj=>?_⟩
  have hrA:=(checkS_iff.1 hA).2.2
  obtain ⟨q1,q2⟩:=(linkS_iff _ 0).1 ((checkS_iff.1 hA).2.1 x hxA).2 j hj
  obtain ⟨z,hz,hzi⟩:=place_mem.1 q1
  have hlt:=(right_links hA x hxA _ (List.getElem_mem hj)).2
  have hzU:=hin z hz (by rw [hzi];exact hlt)
  refine ⟨place_mem.2 ⟨z,hzU,hzi⟩,?_⟩
  rw [← hzi] at q2 ⊢
  rw [kindAt_mem hrA hz] at q2
  rw [kindAt_mem hr hzU]
  exact q2
section
variable {a b : List Ob}
theorem union_mem (ha : checkS a = 0) (hb : checkS b = 0) (hd : dupE b a = 0) {x : Ob} : x ∈ takeRes b (missL a b) ↔ x ∈ b ∨ x ∈ a:=by
  have hra:=(checkS_iff.1 ha).2.2
  have hrb:=(checkS_iff.1 hb).2.2
  have hg:=(dupE_agree hra hrb).1 hd
  have ht : takeErr b (missL a b) = 0:=(takeErr_iff _ hrb).2 (hg.sub fun x hx=>by
    rcases List.mem_append.1 hx with q | q
    · exact List.mem_append_left _ q
    · exact List.mem_append_right _ (missL_sub x q))
  rw [takeRes_iff ht]
  constructor
  · rintro (q | q)
    · exact .inl q
    · exact .inr (missL_sub x q)
  · rintro (q | q)
    · exact .inl q
    · exact miss_in hg q
theorem union_rises (hb : checkS b = 0) (m : List Ob) : Rises (takeRes b m):=takeRes_rises _ (checkS_iff.1 hb).2.2
theorem union_right (ha : checkS a = 0) (hb : checkS b = 0) (hd : dupE b a = 0) (hl : (takeRes b (missL a b)).length ≤ 40) : checkS (takeRes b (missL a b)) = 0:=by
  refine right_of (union_rises hb _) hl fun x hx=>?_
  rcases (union_mem ha hb hd).1 hx with q | q
  · exact ⟨b,hb,q,fun y hy _=>(union_mem ha hb hd).2 (.inl hy)⟩
  · exact ⟨a,ha,q,fun y hy _=>(union_mem ha hb hd).2 (.inr hy)⟩
theorem takeRes_append (m m' : List Ob) : ∀ L : List Ob,takeRes L (m ++ m') = takeRes (takeRes L m) m':=by
  induction m with
  | nil=>intro L;rfl
  | cons x m ih=>intro L;exact ih _
theorem union_part (ha : checkS a = 0) (hb : checkS b = 0) (hd : dupE b a = 0) (hl : b.length + (missL a b).length ≤ 40) (n : Nat) : checkS (takeRes b ((missL a b).take n)) = 0:=by
  have hra:=(checkS_iff.1 ha).2.2
  have hrb:=(checkS_iff.1 hb).2.2
  have hg:=(dupE_agree hra hrb).1 hd
  have hsub : ∀ x ∈ (missL a b).take n,x ∈ missL a b:=fun x hx=>List.mem_of_mem_take hx
  have ht : takeErr b ((missL a b).take n) = 0:=(takeErr_iff _ hrb).2 (hg.sub fun x hx=>by
    rcases List.mem_append.1 hx with q | q
    · exact List.mem_append_left _ q
    · exact List.mem_append_right _ (missL_sub x (hsub x q)))
  refine right_of (union_rises hb _) ?_ fun x hx=>?_
  · have h3 := takeRes_length ((missL a b).take n) b
    have h4 : ((missL a b).take n).length ≤ (missL a b).length:=by rw [List.length_take];omega
    omega
  rcases (takeRes_iff ht).1 hx with q | q
  · exact ⟨b,hb,q,fun y hy _=>(takeRes_iff ht).2 (.inl hy)⟩
  · refine ⟨a, ha, missL_sub x (hsub x q), fun y hy hlt => (takeRes_iff ht).2 ?_⟩
    rcases miss_in hg hy with k | k
    · exact .inl k
    · refine .inr ?_
      obtain ⟨i,hi,rfl⟩:=List.mem_iff_getElem.1 q
      obtain ⟨j,hj,rfl⟩:=List.mem_iff_getElem.1 k
      rw [List.getElem_take] at hlt
      rw [List.length_take] at hi
      have hji : j < i:=(missL_rises (b:=b) hra).of_lt hj (by omega) hlt
      exact List.mem_iff_getElem.2 ⟨j,by rw [List.length_take];omega,by rw [List.getElem_take]⟩
theorem union_step (ha : checkS a = 0) (hb : checkS b = 0) (hd : dupE b a = 0) (hl : b.length + (missL a b).length ≤ 40) (n k : Nat) (hk : k ≤ 12) :
    addE (takeRes b ((missL a b).take n)) (((missL a b).drop n).take k) = 0 ∧ takeRes (takeRes b ((missL a b).take n)) (((missL a b).drop n).take k) = takeRes b ((missL a b).take (n + k)):=by
  have e : takeRes (takeRes b ((missL a b).take n)) (((missL a b).drop n).take k) = takeRes b ((missL a b).take (n + k)):=by
    rw [← takeRes_append,← List.take_add]
  have hra:=(checkS_iff.1 ha).2.2
  have hrb:=(checkS_iff.1 hb).2.2
  have hg:=(dupE_agree hra hrb).1 hd
  refine ⟨addE_iff.2 ⟨union_part ha hb hd hl n,by rw [List.length_take];omega,fun x hx=>checkS_err ha x (missL_sub x (List.mem_of_mem_drop (List.mem_of_mem_take hx))),?_,by rw [e];exact union_part ha hb hd hl (n + k)⟩,e⟩
  refine hg.sub fun x hx=>?_
  rcases List.mem_append.1 hx with q | q
  · rcases takeRes_mem q with q | q
    · exact List.mem_append_left _ q
    · exact List.mem_append_right _ (missL_sub x (List.mem_of_mem_take q))
  · exact List.mem_append_right _ (missL_sub x (List.mem_of_mem_drop (List.mem_of_mem_take q)))
end
theorem refs_more {l : List Rf} {s t : List Ob} (h : refsE l s = 0) (ht : checkS t = 0) (hs : ∀ x ∈ s,x ∈ t) : refsE l t = 0:=by
  obtain ⟨hc,h2,h3,h4⟩:=refsE_iff.1 h
  refine refsE_iff.2 ⟨ht,h2,(eachR_iff _ _).2 ⟨fun r hr=>?_,((eachR_iff _ _).1 h3).2⟩,h4⟩
  obtain ⟨q1,q2,q3⟩:=((eachR_iff _ _).1 h3).1 r hr
  refine ⟨q1,?_,q3⟩
  unfold commitE at q2 ⊢
  split at q2
  · omega
  rename_i c1
  split at q2
  · omega
  rename_i c2
  obtain ⟨z,hz,hzi⟩:=place_mem.1 (by omega : 0 ≤ placeI s r.id)
  have hzt:=hs z hz
  rw [if_neg (by have:=place_mem.2 ⟨z,hzt,hzi⟩;omega),if_neg]
  rw [← hzi] at c2 ⊢
  rw [kindAt_mem (checkS_iff.1 hc).2.2 hz] at c2
  rw [kindAt_mem (checkS_iff.1 ht).2.2 hzt]
  exact c2
theorem part_more {s t : List Ob} {ids : List Int} (h : reachE s ids = 0) (ht : checkS t = 0) (hs : ∀ x ∈ s,x ∈ t) : reachE t ids = 0 ∧ partL t ids = partL s ids:=by
  obtain ⟨hc,hth⟩:=reachE_zero h
  have hrs:=(checkS_iff.1 hc).2.2
  have hrt:=(checkS_iff.1 ht).2.2
  have hE : reachE t ids = 0:=reachE_mk ht fun i hi=>by
    obtain ⟨x,hx,e⟩:=hth i hi
    exact ⟨x,hs x hx,e⟩
  refine ⟨hE,rises_ext (List.Pairwise.filter _ hrt) (List.Pairwise.filter _ hrs) fun x=>?_⟩
  rw [partL_mem,partL_mem]
  have h1 : ∀ i ∈ reachL t ids,i ∈ reachL s ids:=reachBy_min (fun i=>i ∈ reachL s ids) (fun i hi=>reachBy_sub hi) fun x hx hi y hy=>by
    obtain ⟨z,hz,hzi⟩:=reachL_there h _ hi
    have hxz : x = z:=rises_one hrt hx (hs z hz) hzi.symm
    subst hxz
    exact reachL_closed hc ids x hz hi y hy
  have h2 : ∀ i ∈ reachL s ids,i ∈ reachL t ids:=reachBy_min (fun i=>i ∈ reachL t ids) (fun i hi=>reachBy_sub hi) fun x hx hi y hy=>reachL_closed ht ids x (hs x hx) hi y hy
  constructor
  · rintro ⟨hx, hi⟩
    have hi':=h1 _ hi
    obtain ⟨z,hz,hzi⟩:=reachL_there h _ hi'
    have hxz : x = z:=rises_one hrt hx (hs z hz) hzi.symm
    exact ⟨hxz ▸ hz,hi'⟩
  · rintro ⟨hx, hi⟩
    exact ⟨hs x hx,h2 _ hi⟩
end

section
open Go.RowKit
set_option maxRecDepth 100000
def togE (a b : List Ob) : Int:=if diffE a b ≠ 0 then diffE a b else if 40 < b.length + (missL a b).length then 2 else 0
def fromE (n r : Rp) : Int:=if n.err ≠ 0 then n.err else if r.err ≠ 0 then r.err else if n.g < r.g then 4 else togE n.s r.s
def fromR (n r : Rp) : Rp:=⟨takeRes r.s (missL n.s r.s),n.l,n.g,0,[],[],false⟩
theorem togE_zero {a b : List Ob} : togE a b = 0 ↔ diffE a b = 0 ∧ b.length + (missL a b).length ≤ 40:=by
  unfold togE
  by_cases h1 : diffE a b = 0
  · rw [if_neg (fun e => e h1)]
    by_cases h2 : 40 < b.length + (missL a b).length
    · rw [if_pos h2]; constructor
      · intro h;cases h
      · intro h;omega
    · rw [if_neg h2];simp [h1];omega
  · rw [if_pos h1];simp [h1]
theorem fromE_zero {n r : Rp} : fromE n r = 0 ↔ n.err = 0 ∧ r.err = 0 ∧ r.g ≤ n.g ∧ togE n.s r.s = 0:=by
  unfold fromE
  by_cases h1 : n.err = 0
  · rw [if_neg (fun e => e h1)]
    by_cases h2 : r.err = 0
    · rw [if_neg (fun e => e h2)]
      by_cases h3 : n.g < r.g
      · rw [if_pos h3]; constructor
        · intro h;cases h
        · intro h;omega
      · rw [if_neg h3];simp [h1,h2];omega
    · rw [if_pos h2];simp [h2]
  · rw [if_pos h1];simp [h1]
theorem err_refs {r : Rp} (h : r.err = 0) : refsE r.l r.s = 0:=(repE_iff.1 h).1
theorem tog_right {a b : List Ob} (h : togE a b = 0) : checkS a = 0 ∧ checkS b = 0 ∧ dupE b a = 0 ∧ checkS (takeRes b (missL a b)) = 0:=by
  obtain ⟨h1,h2⟩:=togE_zero.1 h
  obtain ⟨ha,hb,hd⟩:=diffE_zero.1 h1
  refine ⟨ha,hb,hd,union_right ha hb hd ?_⟩
  have:=takeRes_length (missL a b) b
  omega
theorem from_mem {n r : Rp} (h : fromE n r = 0) {x : Ob} : x ∈ (fromR n r).s ↔ x ∈ r.s ∨ x ∈ n.s:=by
  obtain ⟨ha,hb,hd,_⟩:=tog_right (fromE_zero.1 h).2.2.2
  exact union_mem ha hb hd
theorem from_store {n r : Rp} (h : fromE n r = 0) : checkS (fromR n r).s = 0:=(tog_right (fromE_zero.1 h).2.2.2).2.2.2
theorem from_right {n r : Rp} (h : fromE n r = 0) : (fromR n r).err = 0:=by
  obtain ⟨hn,_,_,_⟩:=fromE_zero.1 h
  have h1 : refsE n.l (fromR n r).s = 0:=refs_more (err_refs hn) (from_store h) fun x hx=>(from_mem h).2 (.inr hx)
  have h2:=err_gen hn
  exact rep_idle (s:=(fromR n r).s) (l:=n.l) (g:=n.g) h1 h2
def l3 (R : Nat → Rp) : List Rp:=[R 0,R 1,R 2]
theorem rOf_l3 (R : Nat → Rp) {i : Nat} (hi : i < 3) : rOf (l3 R) i = R i:=by
  have : i = 0 ∨ i = 1 ∨ i = 2:=by omega
  rcases this with rfl | rfl | rfl <;> rfl
theorem l3_rOf {l : List Rp} (h : l.length = 3) : l3 (rOf l) = l:=by
  match l,h with
  | [a,b,c],_=>rfl
theorem l3_congr {R R' : Nat → Rp} (h : ∀ i,i < 3 → R i = R' i) : l3 R = l3 R':=by
  unfold l3;rw [h 0 (by decide),h 1 (by decide),h 2 (by decide)]
abbrev top (l : List Rp) : Rp:=rOf l (bestI l)
theorem top_refs {l : List Rp} (h : checkC l = 0) {i : Nat} (hi : i < 3) (hg : (rOf l i).g = (top l).g) : (rOf l i).l = (top l).l:=by
  obtain ⟨hlen,_,hun,_⟩:=checkC_iff.1 h
  have hb:=bestI_lt hlen
  rcases Nat.lt_trichotomy i (bestI l) with c | c | c
  · exact Classical.byContradiction fun q=>hun i _ c hb ⟨hg,q⟩
  · rw [c]
  · exact Classical.byContradiction fun q=>hun _ i c hi ⟨hg.symm,fun e=>q e.symm⟩
theorem put_right {l : List Rp} (h : checkC l = 0) (R : Nat → Rp) (he : ∀ i,i < 3 → (R i).err = 0)
    (hR : ∀ i,i < 3 → ((R i).g = (rOf l i).g ∧ (R i).l = (rOf l i).l) ∨ ((R i).g = (top l).g ∧ (R i).l = (top l).l)) :
    checkC (l3 R) = 0 ∧ (top (l3 R)).g = (top l).g ∧ (top (l3 R)).l = (top l).l:=by
  obtain ⟨hlen,herr,hun,htop⟩:=checkC_iff.1 h
  have hb:=bestI_lt hlen
  have hb':=bestI_lt (l:=l3 R) rfl
  have hle : ∀ i,i < 3 → (R i).g ≤ (top l).g:=fun i hi=>by
    rcases hR i hi with ⟨q,_⟩ | ⟨q,_⟩
    · rw [q];exact bestI_max hlen hi
    · rw [q];exact Int.le_refl _
  have hge : ∀ i,i < 3 → (rOf l i).g = (top l).g → (R i).g = (top l).g:=fun i hi e=>by
    rcases hR i hi with ⟨q,_⟩ | ⟨q,_⟩
    · rw [q,e]
    · exact q
  have htg : (top (l3 R)).g = (top l).g:=by
    have h1:=bestI_max (l:=l3 R) rfl hb
    rw [rOf_l3 R hb,rOf_l3 R hb',hge _ hb rfl] at h1
    have h2:=hle _ hb'
    show (rOf (l3 R) (bestI (l3 R))).g = _
    rw [rOf_l3 R hb'];omega
  have hrl : ∀ i,i < 3 → (R i).g = (top l).g → (R i).l = (top l).l:=fun i hi e=>by
    rcases hR i hi with ⟨q1,q2⟩ | ⟨_,q2⟩
    · rw [q2];exact top_refs h hi (q1 ▸ e)
    · exact q2
  refine ⟨checkC_iff.2 ⟨rfl,fun i hi=>by rw [rOf_l3 R hi];exact he i hi,fun i j hij hj=>?_,?_⟩,htg,?_⟩
  · have hi : i < 3 := by omega
    rw [rOf_l3 R hi,rOf_l3 R hj]
    rintro ⟨q1,q2⟩
    rcases hR i hi with ⟨a1,a2⟩ | ⟨a1,a2⟩
    · rcases hR j hj with ⟨b1, b2⟩ | ⟨b1, b2⟩
      · exact hun i j hij hj ⟨by rw [← a1,← b1];exact q1,fun e=>q2 (by rw [a2,b2];exact e)⟩
      · exact q2 (by rw [hrl i hi (by rw [q1,b1]),b2])
    · exact q2 (by rw [a2,hrl j hj (by rw [← q1,a1])])
  · refine Nat.le_trans htop (cnt_mono fun i hi ht => topB_iff.2 ?_)
    have:=topB_iff.1 ht
    show (rOf (l3 R) i).g = (top (l3 R)).g
    rw [rOf_l3 R hi,htg]
    exact hge i hi this
  · show (rOf (l3 R) (bestI (l3 R))).l = _
    rw [rOf_l3 R hb']
    refine hrl _ hb' ?_
    have : (rOf (l3 R) (bestI (l3 R))).g = (top l).g:=htg
    rwa [rOf_l3 R hb'] at this
def menB (l : List Rp) (i : Nat) : Bool:=!((rOf l i).g == (top l).g)
def menR (l : List Rp) (i : Nat) : Rp:=if menB l i = true then fromR (top l) (rOf l i) else rOf l i
def menV (l : List Rp) (i : Nat) : Int:=if menB l i = true then fromE (top l) (rOf l i) else 0
def allE (l : List Rp) : Int:=if checkC l ≠ 0 then checkC l else fstE (menV l)
def allL (l : List Rp) : List Rp:=l3 (menR l)
theorem allE_zero {l : List Rp} (h : allE l = 0) : checkC l = 0 ∧ ∀ i,i < 3 → menB l i = true → fromE (top l) (rOf l i) = 0:=by
  unfold allE at h
  split at h
  · rename_i c;exact absurd h c
  · rename_i c
    refine ⟨Classical.byContradiction c,fun i hi hm=>?_⟩
    have:=fstE_zero.1 h i hi
    unfold menV at this
    rwa [if_pos hm] at this
theorem menB_not {l : List Rp} {i : Nat} : menB l i = false ↔ (rOf l i).g = (top l).g:=by unfold menB;simp
theorem men_g {l : List Rp} (i : Nat) : (menR l i).g = (top l).g:=by
  unfold menR
  split
  · rfl
  · rename_i c
    exact menB_not.1 (by simpa using c)
theorem men_l {l : List Rp} (h : checkC l = 0) {i : Nat} (hi : i < 3) : (menR l i).l = (top l).l:=by
  unfold menR
  split
  · rfl
  · rename_i c
    exact top_refs h hi (menB_not.1 (by simpa using c))
theorem all_right {l : List Rp} (h : allE l = 0) : checkC (allL l) = 0 ∧ (top (allL l)).g = (top l).g ∧ (top (allL l)).l = (top l).l:=by
  obtain ⟨hc,hf⟩:=allE_zero h
  refine put_right hc (menR l) (fun i hi=>?_) (fun i hi=>.inr ⟨men_g i,men_l hc hi⟩)
  unfold menR
  split
  · rename_i c;exact from_right (hf i hi c)
  · exact (checkC_iff.1 hc).2.1 i hi
theorem all_none {l : List Rp} (h : allE l = 0) (i : Nat) (hi : i < 3) : menB (allL l) i = false:=by
  refine menB_not.2 ?_
  rw [(all_right h).2.1]
  show (rOf (l3 (menR l)) i).g = _
  rw [rOf_l3 _ hi];exact men_g i
theorem all_again {l : List Rp} (h : allE l = 0) : allE (allL l) = 0 ∧ allL (allL l) = allL l ∧ cntTo (menB (allL l)) 3 = 0:=by
  have hn:=all_none h
  refine ⟨?_,?_,?_⟩
  · unfold allE
    rw [if_neg (fun e=>e (all_right h).1)]
    refine fstE_zero.2 fun i hi=>?_
    unfold menV
    rw [hn i hi,if_neg (by decide)]
  · have : allL (allL l) = l3 (rOf (allL l)) := l3_congr fun i hi => by unfold menR; rw [hn i hi, if_neg (by decide)]
    rw [this]
    exact l3_rOf rfl
  · simp only [cntTo];rw [hn 0 (by decide),hn 1 (by decide),hn 2 (by decide)];rfl
theorem best_same {gs : List Int} (n : Nat) (h : ∀ i,i < n → gs.getD i 0 = gs.getD 0 0) : bestTo gs n = 0:=by
  induction n with
  | zero=>rfl
  | succ n ih =>
    rw [bestTo,ih (fun i hi=>h i (by omega)),if_neg]
    have:=h n (by omega);omega
theorem all_best {l : List Rp} : bestI (allL l) = 0:=best_same _ fun i hi=>by
  rw [gOf_at,gOf_at]
  show (rOf (l3 (menR l)) i).g = (rOf (l3 (menR l)) 0).g
  rw [rOf_l3 _ hi,rOf_l3 _ (by decide),men_g,men_g]
abbrev tipsOf (l : List Rp) : List Int:=(top l).l.map Rf.id
theorem refs_tips {l : List Rf} {s : List Ob} (h : refsE l s = 0) : reachE s (l.map Rf.id) = 0:=by
  refine reachE_mk (refsE_iff.1 h).1 fun i hi=>?_
  obtain ⟨r,hr,rfl⟩:=List.mem_map.1 hi
  exact (refs_isC h hr).1
theorem all_part {l : List Rp} (h : allE l = 0) {i : Nat} (hi : i < 3) : reachE (menR l i).s (tipsOf l) = 0 ∧ (menB l i = true → partL (menR l i).s (tipsOf l) = partL (menR l 0).s (tipsOf l)):=by
  obtain ⟨hc,hf⟩:=allE_zero h
  have hlen:=(checkC_iff.1 hc).1
  have hterr:=(checkC_iff.1 hc).2.1 _ (bestI_lt hlen)
  have htr : reachE (top l).s (tipsOf l) = 0:=refs_tips (err_refs hterr)
  have hmore : ∀ k,k < 3 → menB l k = true → reachE (menR l k).s (tipsOf l) = 0 ∧ partL (menR l k).s (tipsOf l) = partL (top l).s (tipsOf l):=fun k hk hm=>by
    have hz:=hf k hk hm
    unfold menR
    rw [if_pos hm]
    exact part_more htr (from_store hz) fun x hx=>(from_mem hz).2 (.inr hx)
  have h0 : partL (menR l 0).s (tipsOf l) = partL (top l).s (tipsOf l):=by
    cases hm : menB l 0 with
    | true=>exact (hmore 0 (by decide) hm).2
    | false =>
      have hg:=menB_not.1 hm
      have hb : bestI l = 0:=by
        have key : ∀ n,n ≤ 3 → bestTo (gOf l) n = 0:=fun n=>by
          induction n with
          | zero=>intro _;rfl
          | succ n ih =>
            intro hn
            rw [bestTo,ih (by omega),if_neg]
            rw [gOf_at,gOf_at]
            have:=bestI_max hlen (i:=n) (by omega)
            have hg' : (rOf l 0).g = (rOf l (bestI l)).g:=hg
            omega
        have:=key 3 (Nat.le_refl _)
        unfold bestI;rw [hlen];exact this
      unfold menR
      rw [hm,if_neg (by decide)]
      unfold top
      rw [hb]
  refine ⟨?_,fun hm=>by rw [(hmore i hi hm).2,h0]⟩
  cases hm : menB l i with
  | true=>exact (hmore i hi hm).1
  | false =>
    unfold menR
    rw [hm,if_neg (by decide)]
    have:=refs_tips (err_refs ((checkC_iff.1 hc).2.1 i hi))
    rw [top_refs hc hi (menB_not.1 hm)] at this
    exact this
end
end Go.Proofs.YtehmlpkapjdhkaaGreatDoor
