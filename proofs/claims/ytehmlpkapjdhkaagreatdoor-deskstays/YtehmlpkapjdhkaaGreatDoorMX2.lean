import Derived.Test.YtehmlpkapjdhkaaGreatDoorMX1
import Derived.Test.YtehmlpkapjdhkaaGreatDoorMA
import Derived.Test.YtehmlpkapjdhkaaGreatDoorMD
import Derived.Test.YtehmlpkapjdhkaaGreatDoorML2
namespace Go.Proofs.YtehmlpkapjdhkaaGreatDoor
section
open Go.RowKit
set_option maxHeartbeats 400000 in
theorem put_any (p base n : Nat) (v : Value) (xs : List Value) (a : Option Addr) (c : Nat) (N : List Int) (w : World)
    (hN : Holds w a N) (hr : ∀ x ∈ N,0 ≤ x ∧ x ≤ 255) (hne : ∀ b off,a = some ⟨b,off,none⟩ → 0 < N.length → b ≠ p ∧ some b ≠ v.ownBlock)
    (hl : n + N.length ≤ 1000) (hpb : p < base) (hbase : base ≤ w.heap.size)
    (hcell : w.cell? ⟨p,0,none⟩ = some v) (hfr : w.frozen? ⟨p,0,none⟩ = false) (hown : w.ownsRow base 5 1 v n xs) :
    Calls Tryz.prog 198 #[.pointer (some ⟨p,0,none⟩),.slice a N.length c] w
      fun e w'=>e = .returned (.tuple #[]) ∧ ∃ v',w'.cell? ⟨p,0,none⟩ = some v' ∧ w'.frozen? ⟨p,0,none⟩ = false ∧ w'.ownsRow base 5 1 v' (n + N.length) (xs ++ N.map (Value.int .u8)) ∧
        Stays p v.ownBlock w w' ∧ (v'.ownBlock = v.ownBlock ∨ ∃ g,v'.ownBlock = some g ∧ w.heap.size ≤ g):=by
  obtain ⟨i0,hi,hz0,hz1,hz2⟩:=info_parts Tryz.info5
  go_enter Tryz.func198,Tryz.ntmps198
  go_wp2
  go_loopw [8] (fun i wr=>∃ (k : Nat) (vr : Value),i = .int .i64 k ∧ k ≤ N.length ∧ wr.cell? ⟨p,0,none⟩ = some vr ∧ wr.frozen? ⟨p,0,none⟩ = false ∧
      wr.ownsRow base 5 1 vr (n + k) (xs ++ (N.take k).map (Value.int .u8)) ∧ Stays p v.ownBlock w wr ∧ (vr.ownBlock = v.ownBlock ∨ ∃ g,vr.ownBlock = some g ∧ w.heap.size ≤ g))
    (fun i _=>N.length - (intOf i).toNat)
  case atStart=>exact ⟨0,v,rfl,Nat.zero_le _,hcell,hfr,by simpa using hown,Stays.refl _ _ _,Or.inl rfl⟩
  case round =>
    obtain ⟨k,vr,rfl,hk,hcr,hfrr,hownr,hst,hat⟩:=hrel
    by_cases hlt : k < N.length
    · obtain ⟨b1, o1, rfl, hb1, hc1⟩ := hN k hlt
      obtain ⟨hbp,hbv⟩:=hne b1 o1 rfl (by omega)
      have hk1 : wr.cell? ⟨b1,o1 + k,none⟩ = some (.int .i64 N[k]):=by
        rw [World.cell?_of_block (a:=⟨b1,o1 + k,none⟩) (hst.block b1 hb1 hbp hbv),hc1 k hlt];simp [hlt]
      have hx:=hr N[k] (List.getElem_mem hlt)
      have hw8:=u8_same hx
      have hsz:=hst.size
      clear hc1 hN hne hcell hfr hr
      have HO : Hid (wr.ownsRow base 5 1 vr (n + k) (xs ++ (N.take k).map (Value.int .u8))):=hownr
      clear hownr hown
      go_wp2_with (at_builtin;refine wpList_append_lies _ rfl (.tmp 16) (.tmp 19) 228 rfl base 5 i0 (.int .u8 0) 1 1 Tryz.underlying228 hi hz0 hz1 hz2 rfl (by decide) vr (n + k) _ rfl (HO.out.alloc _) ⟨wr.heap.size,0,none⟩ 1 1 [.int .u8 N[k]] rfl rfl ?c1 ?c2 (by decide) ?c3 ?c4 ?c5 (wr.heap.size + 1) (by simp) ?_)
      case c1=>exact cell_one_new _ _ _
      case c2=>intro u hu;simp at hu;subst hu;rfl
      case c3=>unfold maxLen;omega
      case c4=>omega
      case c5=>simp;omega
      intro g cap w1 hown' hgrow hat' _
      have hpo : some p ≠ vr.ownBlock:=fun e=>by have:=(HO.out.lt p e.symm).1;omega
      have hpl : p < wr.heap.size:=by omega
      have hcp : w1.cell? ⟨p,0,none⟩ = some vr:=hgrow.cell ((World.cell?_alloc_past _ _ _ hpl).trans hcr) hpo
      have hfp : w1.frozen? ⟨p,0,none⟩ = false:=by
        rw [World.frozen?_of_block (a:=⟨p,0,none⟩) (hgrow.block p (by simp;omega) hpo)]
        exact (World.frozen?_alloc_past _ _ _ hpl).trans hfrr
      have R:=put_round (v':=.slice (some ⟨g,0,none⟩) (n + k + 1) cap) (u:=.slice (some ⟨g,0,none⟩) (n + k + 1) cap) hlt hst hat hpb hcp hfp (by simpa using hown') hgrow hat' rfl
      clear hown' hgrow hat' hat hst hcr hfrr
      go_wp2
      go_roundw
      case rel=>exact ⟨k + 1,_,by go_num,by omega,R⟩
      case measure=>simp [intOf];omega
    · go_wp2
      go_end0
      have hkn : k = N.length:=by omega
      subst hkn
      exact ⟨rfl,vr,hcr,hfrr,by simpa using hownr,hst,hat⟩
theorem enc_conv (g cap : Nat) (id kind : Int) (L : List Int) (n : Nat) (w : World) (base : Nat)
    (ho : w.ownsRow base 5 1 (.slice (some ⟨g,0,none⟩) (0 + [id,kind,(L.length : Int)].length + L.length + [(n : Int)].length) cap) (0 + [id,kind,(L.length : Int)].length + L.length + [(n : Int)].length)
      ([] ++ List.map (Value.int .u8) [id,kind,(L.length : Int)] ++ List.map (Value.int .u8) L ++ List.map (Value.int .u8) [(n : Int)])) :
    (convert 228 9 (.slice (some ⟨g,0,none⟩) (0 + [id,kind,(L.length : Int)].length + L.length + [(n : Int)].length) cap)).run Tryz.prog w = .ok (.string (strOfNums (encNums id kind L n))) w:=by
  refine run_convert_bytes_arg w 228 5 Tryz.underlying228 Tryz.underlying5 g 0 _ cap (encNums id kind L n) (by simp [encNums];omega) (fun i hi=>?_) 9 Tryz.underlying9
  rw [Nat.zero_add,ho.cellAt i (by omega)]
  have e : ([] ++ List.map (Value.int .u8) [id,kind,(L.length : Int)] ++ List.map (Value.int .u8) L ++ List.map (Value.int .u8) [(n : Int)]) = (encNums id kind L n).map (Value.int .u8):=by simp [encNums]
  have hi' : i < (encNums id kind L n).length:=by simp [encNums];simp at hi;omega
  rw [e]
  simp [List.getElem?_eq_getElem hi']
set_option maxHeartbeats 400000 in
theorem encode_ok (id kind : Int) (a : Option Addr) (c : Nat) (L : List Int) (t : ByteArray) (w : World)
    (h : Holds w a L) (he : checkE id kind L t.size = 0) :
    Calls Tryz.prog 146 #[.agg #[.int .i64 id,.int .i64 kind,.slice a L.length c,.string t]] w
      fun e w'=>e = .returned (.tuple #[.string (strOfNums (encNums id kind L t.size) ++ t),.int .i64 0]) ∧ Below w.heap.size w w':=by
  have h':=h.below (below_alloc w (.cells #[.int .i64 id,.int .i64 kind,.slice a L.length c,.string t] 58))
  obtain ⟨hid,hki,hL4,ht8,hlk,_⟩:=checkE_zero he
  have HE : Hid (checkE id kind L t.size = 0):=he
  have HL : Hid (linksE id kind 0 0 L = 0):=hlk
  clear he hlk
  go_enter Tryz.func146,Tryz.ntmps146
  go_wp2_with fail
  refine (check_any id kind a c L t _ h' (by omega)).mono ?_
  rintro e w1 ⟨rfl,hb⟩
  rw [HE.out]
  have hB:=(below_alloc _ _).trans (hb.mono (by simp))
  obtain ⟨g0,g1,g2,g3,hlt⟩:=boxed hb
  have h1 : Holds w1 a L:=h.below hB
  clear hb h'
  go_wp2_with fail
  refine (put_any w1.heap.size (w1.heap.size + 1) 0 (.slice none 0 0) [] (some ⟨w1.heap.size + 1,0,none⟩) 3 [id,kind,(L.length : Int)] _ ?k1 ?k2 ?k3 ?k4 ?k5 ?k6 ?k7 ?k8 (World.ownsRow_nil _ _ _ _)).mono ?_
  case k1=>exact put_new w1 _ [id,kind,(L.length : Int)]
  case k2=>intro x hx;simp at hx;rcases hx with rfl | rfl | rfl <;> omega
  case k3=>intro b off e _;simp at e;simp [Value.ownBlock];omega
  case k4=>simp
  case k5=>omega
  case k6=>simp
  case k7=>simp [go_sem]
  case k8=>simp [go_sem]
  rintro e w2 ⟨rfl,v2,hc2,hf2,ho2,hs2,ha2⟩
  have hB2 : Below w1.heap.size w1 w2:=(below_alloc2 _ _ _).trans (hs2.below (by simp;omega) (Nat.le_refl _) (by simp [Value.ownBlock]))
  have hz2 : w1.heap.size + 2 ≤ w2.heap.size:=by have:=hs2.size;simp at this;omega
  have q2 : w2.cell? ⟨w.heap.size,2,none⟩ = some (.slice a L.length c):=(hB2.cell hlt).trans g2
  have q3 : w2.cell? ⟨w.heap.size,3,none⟩ = some (.string t):=(hB2.cell hlt).trans g3
  clear hs2 ha2
  go_wp2_with fail
  refine (put_any w1.heap.size (w1.heap.size + 1) _ v2 _ a c L _ (h1.below hB2) ?k1 ?k3 ?k4 (by omega) (by omega) hc2 hf2 ho2).mono ?_
  case k1=>intro x hx;have:=linksE_mem L 0 0 HL.out x hx;omega
  case k3=>
    intro b off e h0
    obtain ⟨b',off',e',hb',_⟩:=h1 0 h0
    rw [e] at e'
    simp at e'
    refine ⟨by omega,fun ee=>?_⟩
    have:=(ho2.lt b ee.symm).1
    omega
  case k4=>simp;omega
  rintro e w3 ⟨rfl,v3,hc3,hf3,ho3,hs3,ha3⟩
  have hB3 : Below w1.heap.size w2 w3:=hs3.below (by omega) (Nat.le_refl _) (fun k hk=>by have:=(ho2.lt k hk).1;omega)
  have hz3 : w1.heap.size + 2 ≤ w3.heap.size:=by have:=hs3.size;omega
  have r3 : w3.cell? ⟨w.heap.size,3,none⟩ = some (.string t):=(hB3.cell hlt).trans q3
  clear hs3 ha3 hc2 hf2 ho2 q2 q3 g0 g1 g2 g3
  go_wp2_with fail
  have hp3 : w1.heap.size < w3.heap.size:=by omega
  refine (put_any w1.heap.size (w1.heap.size + 1) _ v3 _ (some ⟨w3.heap.size,0,none⟩) 1 [(t.size : Int)] _ ?k1 ?k2 ?k3 ?k4 ?k5 ?k6 ?k7 ?k8 (ho3.alloc _)).mono ?_
  case k1=>exact holds_new w3 [(t.size : Int)] 3 _ rfl
  case k2=>intro x hx;simp at hx;omega
  case k3 =>
    intro b off e h0
    simp at e
    refine ⟨by omega,fun ee=>?_⟩
    have:=(ho3.lt b ee.symm).2
    omega
  case k4=>simp;omega
  case k5=>omega
  case k6=>simp;omega
  case k7=>exact (World.cell?_alloc_past _ _ _ hp3).trans hc3
  case k8=>exact (World.frozen?_alloc_past _ _ _ hp3).trans hf3
  rintro e w4 ⟨rfl,v4,hc4,hf4,ho4,hs4,ha4⟩
  have hB4 : Below w1.heap.size w3 w4:=((Below.refl _ _).alloc (by omega) _).trans (hs4.below (by simp;omega) (Nat.le_refl _) (fun k hk=>by have:=(ho3.lt k hk).1;omega))
  have s3 : w4.cell? ⟨w.heap.size,3,none⟩ = some (.string t):=(hB4.cell hlt).trans r3
  have hBB : Below w.heap.size w w4:=((hB.trans (hB2.mono (by omega))).trans (hB3.mono (by omega))).trans (hB4.mono (by omega))
  obtain ⟨g,cap,hv4,_,_⟩:=ho4.form (by simp)
  rw [hv4] at ho4 hc4
  have hconv:=enc_conv g cap id kind L t.size w4 _ ho4
  clear hs4 ha4 hc3 hf3 ho3 r3 hB2 hB3 hB4 hz2 hz3 hv4 ho4 hf4
  generalize (0 + [id,kind,(L.length : Int)].length + L.length + [(t.size : Int)].length) = nn at hc4 hconv
  have hsum : (strOfNums (encNums id kind L t.size)).size + t.size ≤ 9223372036854775807:=by rw [strOfNums_size];simp [encNums];omega
  go_wp2
  go_ret2
  exact ⟨rfl,hBB⟩
end

section
open Go.RowKit
set_option maxRecDepth 100000
theorem two_objs (w : World) (A B : Obj) : ((w.alloc A).alloc B).heap[w.heap.size]? = some A ∧ ((w.alloc A).alloc B).heap[w.heap.size + 1]? = some B:=by
  refine ⟨(((below_alloc (w.alloc A) B).block _ (by simp)).trans (heap_alloc_new w A)),?_⟩
  have:=heap_alloc_new (w.alloc A) B
  rwa [show (w.alloc A).heap.size = w.heap.size + 1 by simp] at this
theorem c4_of {w : World} {q : Nat} {x0 x1 x2 x3 : Value} {t : TypeId} (h : w.heap[q]? = some (.cells #[x0,x1,x2,x3] t)) : w.cell? ⟨q,0,none⟩ = some x0 ∧ w.cell? ⟨q,1,none⟩ = some x1 ∧ w.cell? ⟨q,2,none⟩ = some x2 ∧ w.cell? ⟨q,3,none⟩ = some x3:=by
  refine ⟨?_,?_,?_,?_⟩ <;> (rw [cell_of_row w _ _ _ _ _ h];rfl)
def encS (x : Ob) : ByteArray:=strOfNums (encNums x.id x.kind x.links x.text.size) ++ x.text
theorem encS_inj {x y : Ob} (hx : x.err = 0) (hy : y.err = 0) (h : encS x = encS y) : x = y:=by
  have b1 : Begins (encS x) x.id x.kind x.links (nums x.text):=⟨[],by unfold encS;rw [enc_nums hx,List.append_nil]⟩
  have b2 : Begins (encS y) y.id y.kind y.links (nums y.text):=⟨[],by unfold encS;rw [enc_nums hy,List.append_nil]⟩
  rw [h] at b1
  obtain ⟨e1,e2,e3,e4⟩:=begins_unique b1 b2
  obtain ⟨i,k,L,t⟩:=x
  obtain ⟨i',k',L',t'⟩:=y
  have e5:=nums_inj e4
  simp only at e1 e2 e3 e5
  rw [e1,e2,e3,e5]
theorem encS_eq {x y : Ob} (hx : x.err = 0) (hy : y.err = 0) : ((encS x).toList == (encS y).toList) = true ↔ x = y:=by
  rw [name_eq]
  exact ⟨encS_inj hx hy,fun e=>by rw [e]⟩
set_option maxHeartbeats 1000000 in
theorem diffSame_any (x y : Ob) (a1 : Option Addr) (c1 : Nat) (a2 : Option Addr) (c2 : Nat) (w : World) (h1 : Holds w a1 x.links) (h2 : Holds w a2 y.links) (hx : x.err = 0) (hy : y.err = 0) :
    Calls Tryz.prog 89 #[x.val a1 c1,y.val a2 c2] w fun e w'=>∃ r,e = .returned (.bool r) ∧ (r = true ↔ x = y) ∧ Below w.heap.size w w':=by
  have hA:=below_alloc2 w (.cells #[.int .i64 x.id,.int .i64 x.kind,.slice a1 x.links.length c1,.string x.text] 58) (.cells #[.int .i64 y.id,.int .i64 y.kind,.slice a2 y.links.length c2,.string y.text] 58)
  obtain ⟨k1,k2⟩:=two_objs w (.cells #[.int .i64 x.id,.int .i64 x.kind,.slice a1 x.links.length c1,.string x.text] 58) (.cells #[.int .i64 y.id,.int .i64 y.kind,.slice a2 y.links.length c2,.string y.text] 58)
  have q1:=h1.below hA
  have q2:=h2.below hA
  obtain ⟨y0,y1,y2,y3⟩:=c4_of k1
  have he:=encode_ok x.id x.kind a1 c1 x.links x.text _ q1 hx
  go_enter Tryz.func89,Tryz.ntmps89
  go_wp2_with fail
  generalize (w.alloc (.cells #[.int .i64 x.id,.int .i64 x.kind,.slice a1 x.links.length c1,.string x.text] 58)).alloc (.cells #[.int .i64 y.id,.int .i64 y.kind,.slice a2 y.links.length c2,.string y.text] 58) = W0 at *
  refine he.mono ?_
  clear he
  rintro e W1 ⟨rfl,hb1⟩
  have hB1:=hA.trans (hb1.mono hA.size)
  have q3:=q2.below hb1
  obtain ⟨z0,z1,z2,z3⟩:=c4_of ((hb1.block _ (heap_lt k2)).trans k2)
  clear y0 y1 y2 y3 hA
  have he:=encode_ok y.id y.kind a2 c2 y.links y.text W1 q3 hy
  rw [show strOfNums (encNums x.id x.kind x.links x.text.size) ++ x.text = encS x from rfl]
  rw [show strOfNums (encNums y.id y.kind y.links y.text.size) ++ y.text = encS y from rfl] at he
  have HQ : Hid (((encS x).toList == (encS y).toList) = true ↔ x = y):=encS_eq hx hy
  generalize encS x = sx at *
  generalize encS y = sy at *
  go_wp2_with fail
  refine he.mono ?_
  clear he
  rintro e W2 ⟨rfl,hb2⟩
  have hB2:=hB1.trans (hb2.mono hB1.size)
  clear hb1 hb2 hB1 z0 z1 z2 z3
  go_wp2
  go_ret
  exact ⟨_,rfl,HQ.out,hB2⟩
def DiffPost (a b : List Ob) (w : World) (e : Ending) (w' : World) : Prop :=
  Below w.heap.size w w' ∧ ((diffE a b ≠ 0 ∧ e = .returned (.tuple #[.slice none 0 0,.int .i64 (diffE a b)])) ∨
    (diffE a b = 0 ∧ ∃ v rs,e = .returned (.tuple #[v,.int .i64 0]) ∧ rs.map Pl.x = missL a b ∧ Objs w' w.heap.size v rs))
theorem DiffPost.bad {a b : List Ob} {w w' : World} {r : Int} (h : diffE a b = r) (h0 : r ≠ 0) (hb : Below w.heap.size w w') : DiffPost a b w (.returned (.tuple #[.slice none 0 0,.int .i64 r])) w' :=
  ⟨hb,.inl ⟨by rw [h];exact h0,by rw [h]⟩⟩
theorem missL_take {a b : List Ob} {k : Nat} (hk : k < a.length) : missL (a.take (k + 1)) b = missL (a.take k) b ++ if placeI b a[k].id < 0 then [a[k]] else []:=by
  unfold missL
  rw [List.take_succ_eq_append_getElem hk,List.filter_append]
  congr 1
  split <;> simp_all
theorem dupE_drop {a b : List Ob} {k : Nat} (hk : k < a.length) : dupE b (a.drop k) = if takeE b a[k] ≠ 0 then takeE b a[k] else dupE b (a.drop (k + 1)):=by
  rw [List.drop_eq_getElem_cons hk,dupE]
set_option maxHeartbeats 4000000 in
theorem diffObjects_any (a1 : Option Addr) (c1 : Nat) (a : List Ob) (a2 : Option Addr) (c2 : Nat) (b : List Ob) (w : World) (h1 : HoldsS w a1 a) (hl1 : a.length ≤ 9223372036854775807) (h2 : HoldsS w a2 b) (hl2 : b.length ≤ 9223372036854775807) :
    Calls Tryz.prog 35 #[.slice a1 a.length c1,.slice a2 b.length c2] w (DiffPost a b w):=by
  have S0 : Objs w w.heap.size (.slice none 0 0) []:=⟨World.ownsRow_nil _ _ _ _,fun r hr=>by cases hr⟩
  obtain ⟨PO,HPO⟩ : ∃ P : Ending → World → Prop,Hid (P = DiffPost a b w):=⟨_,rfl⟩
  rw [← HPO.out]
  have hc:=checkS_any a1 c1 a w h1 hl1
  go_enter Tryz.func35,Tryz.ntmps35
  go_wp2_with fail
  by_cases e1 : checkS a = 0
  case neg =>
    have HF : Hid (∀ w',Below w.heap.size w w' → PO (.returned (.tuple #[.slice none 0 0,.int .i64 (checkS a)])) w'):=fun w' hb=>by
      rw [HPO.out];exact DiffPost.bad (by unfold diffE;rw [if_pos e1]) e1 hb
    have q1 : (checkS a != 0) = true:=by simpa using e1
    clear e1
    refine hc.mono ?_
    rintro e w1 ⟨rfl,hb1⟩
    generalize checkS a = E at *
    go_wp2
    exact HF.out _ hb1
  rw [e1] at hc
  refine hc.mono ?_
  clear hc
  rintro e w1 ⟨rfl,hb1⟩
  have hc:=checkS_any a2 c2 b w1 (h2.below hb1) hl2
  have HE1 : Hid (checkS a = 0):=e1
  clear e1
  go_wp2_with fail
  by_cases e2 : checkS b = 0
  case neg =>
    have HF : Hid (∀ w',Below w.heap.size w w' → PO (.returned (.tuple #[.slice none 0 0,.int .i64 (checkS b)])) w'):=fun w' hb=>by
      rw [HPO.out];exact DiffPost.bad (by unfold diffE;rw [if_neg (fun e=>e HE1.out),if_pos e2]) e2 hb
    have q1 : (checkS b != 0) = true:=by simpa using e2
    clear e2
    refine hc.mono ?_
    rintro e w2 ⟨rfl,hb2⟩
    have hB2:=hb1.trans (hb2.mono hb1.size)
    clear hb1 hb2
    generalize checkS b = E at *
    go_wp2
    exact HF.out _ hB2
  rw [e2] at hc
  refine hc.mono ?_
  clear hc
  rintro e w2 ⟨rfl,hb2⟩
  have hB2:=hb1.trans (hb2.mono hb1.size)
  have HE2 : Hid (checkS b = 0):=e2
  have HDE : Hid (diffE a b = dupE b a):=by unfold Hid diffE;rw [if_neg (fun e=>e HE1.out),if_neg (fun e=>e HE2.out)]
  have S2:=S0.below hB2
  clear e2 hb1 hb2 S0
  go_wp2_with fail
  go_loopw [8,25] (fun o i wr=>∃ (k : Nat) (v : Value) (rs : List Pl),i = .int .i64 k ∧ o = v ∧ k ≤ a.length ∧ Hid (rs.map Pl.x = missL (a.take k) b) ∧ Objs wr w.heap.size v rs ∧ Below w.heap.size w wr ∧ Hid (dupE b a = dupE b (a.drop k))) (fun _ i _=>a.length - (intOf i).toNat)
  case atStart=>exact ⟨0,_,[],rfl,rfl,Nat.zero_le _,rfl,S2,hB2,rfl⟩
  case round =>
    clear S2 hB2
    obtain ⟨k,v,rs,rfl,rfl,hk,hrs,SH,HB,HD⟩:=hrel
    obtain ⟨g0,m0,c0,rfl⟩:=own_slice SH.own
    by_cases hlt : k < a.length
    · obtain ⟨bb, off, rfl, hb, hc⟩ := h1 k hlt
      have hO:=(hc k hlt).below HB hb
      clear hc
      obtain ⟨sa,sc,y0,y1,y2,y3,y4,y5⟩:=hO
      have hA:=below_alloc wr (.cells #[.int .i64 a[k].id,.int .i64 a[k].kind,.slice sa a[k].links.length sc,.string a[k].text] 58)
      have ko:=heap_alloc_new wr (.cells #[.int .i64 a[k].id,.int .i64 a[k].kind,.slice sa a[k].links.length sc,.string a[k].text] 58)
      have HBA:=HB.trans (hA.mono HB.size)
      have SA:=SH.below hA
      have hH:=y4.below hA
      have HXE : Hid (a[k].err = 0):=checkS_err HE1.out _ (List.getElem_mem hlt)
      have hwr : w.heap.size ≤ wr.heap.size:=HB.size
      obtain ⟨z0,z1,z2,z3⟩:=c4_of ko
      rcases placeI_cases b a[k].id with hp | ⟨i,hp,hi⟩
      · -- it is not there
        have HT : Hid (takeE b a[k] = 0):=(takeE_zero (checkS_iff.1 HE2.out).2.2).2 fun y hy e=>by
          have:=place_mem.2 ⟨y,hy,e⟩;omega
        have HPL : Hid (placeI b a[k].id < 0):=by unfold Hid;omega
        have hf:=find_none a2 c2 b a[k].id _ (h2.below HBA) HE2.out hp
        clear hp SH HB hA y4 z1 z2 z3
        go_wp2_with fail
        generalize wr.alloc (.cells #[.int .i64 a[k].id,.int .i64 a[k].kind,.slice sa a[k].links.length sc,.string a[k].text] 58) = W at *
        refine hf.mono ?_
        clear hf
        rintro e W1 ⟨rfl,hb1⟩
        have hA1:=below_alloc W1 (.cells #[.int .i64 0,.int .i64 0,.slice none 0 0,.string { data:=#[] }] 58)
        have hb2:=hb1.trans (hA1.mono hb1.size)
        have HB2:=HBA.trans (hb2.mono HBA.size)
        have SB:=SA.below hb2
        have hH2:=hH.below hb2
        have ko2:=(hb2.block _ (heap_lt ko)).trans ko
        obtain ⟨u0,u1,u2,u3⟩:=c4_of ko2
        have hcp:=copyOf_any a[k] sa sc _ hH2 (err_links HXE.out)
        have hWs : w.heap.size ≤ W1.heap.size:=Nat.le_trans HBA.size hb1.size
        clear hA1 hb1 hb2 HBA SA hH ko z0 y0 y1 y2 y3
        go_wp2_with fail
        generalize W1.alloc (.cells #[.int .i64 0,.int .i64 0,.slice none 0 0,.string { data:=#[] }] 58) = W2 at *
        refine hcp.mono ?_
        clear hcp
        rintro e W3 ⟨ta,tc,rfl,hta,hb3,hfr,htc⟩
        have hb4:=below_alloc W3 (.cells #[.int .i64 a[k].id,.int .i64 a[k].kind,.slice ta a[k].links.length tc,.string a[k].text] 58)
        have hv4:=heap_alloc_new W3 (.cells #[.int .i64 a[k].id,.int .i64 a[k].kind,.slice ta a[k].links.length tc,.string a[k].text] 58)
        have S4:=(SB.below hb3).below hb4
        have hrl : rs.length ≤ 40:=by
          have h3:=congrArg List.length hrs.out
          have h4:=missL_length (a.take k) b
          have h5:=(checkS_zero HE1.out).1
          rw [List.length_map] at h3
          rw [List.length_take] at h4
          omega
        have hwz:=Nat.le_trans HB2.size (Nat.le_trans hb3.size hb4.size)
        obtain ⟨v',W5,hr5,ho5,hg5,hf5⟩:=app_own _ w.heap.size 25 _ rs.length (rowC rs) S4.own W3.heap.size _ hv4 rfl (by intro u hu;simp only [List.mem_cons,List.not_mem_nil,or_false] at hu;rcases hu with rfl | rfl | rfl | rfl <;> rfl) (by omega) hwz
        obtain ⟨g',m',c',rfl⟩:=own_slice ho5
        have NX:=SB.next (rs':=rs ++ [⟨a[k],ta,tc⟩]) (r:=⟨a[k],ta,tc⟩) HB2.size (hb3.trans (hb4.mono hb3.size)) hg5 (by rw [List.length_append,rowC_append];exact ho5) hf5 (by intro s hs;rcases List.mem_append.1 hs with q | q;exact .inl q;exact .inr (List.mem_singleton.1 q)) ⟨err_links HXE.out,htc⟩ (hta.below hb4) hfr
        have hBB:=HB2.trans (NX.2.mono (Nat.le_refl _))
        have HM : Hid ((rs ++ [(⟨a[k],ta,tc⟩ : Pl)]).map Pl.x = missL (a.take (k + 1)) b):=by
          unfold Hid
          rw [List.map_append,hrs.out,missL_take hlt,if_pos HPL.out];rfl
        have HD2 : Hid (dupE b a = dupE b (a.drop (k + 1))):=by
          unfold Hid
          rw [HD.out,dupE_drop hlt,if_neg (fun e=>e HT.out)]
        have HN : Hid (_ ∧ _):=⟨NX.1,hBB⟩
        clear NX hBB hf5 hg5 ho5 S4 hv4 hb4 hb3 hta hfr htc SB hH2 hwz hrs HD HB2 ko2
        go_wp2_with (at_builtin;refine wpList_append_h (by rfl) (.tmp 46) (.tmp 49) (by rfl) _ _ (by rfl) (by rfl) hr5 ?_)
        go_roundw
        case rel=>exact ⟨k + 1,_,_,by go_num,rfl,by omega,HM,HN.out.1,HN.out.2,HD2⟩
        case measure=>simp [intOf];omega
      · -- it is there
        have hid:=(placeI_get hp).2
        have HT : Hid (takeE b a[k] = hitE (sameO b[i].id b[i].kind b[i].links b[i].text a[k].id a[k].kind a[k].links a[k].text)):=takeE_hit hp hi
        have HPL : Hid (¬ placeI b a[k].id < 0):=by unfold Hid;omega
        have HYE : Hid (b[i].err = 0):=checkS_err HE2.out _ (List.getElem_mem hi)
        have hf:=find_ok a2 c2 b a[k].id i _ (h2.below HBA) HE2.out hp hi
        clear hp SH HB hA y4 z1 z2 z3 hid
        go_wp2_with fail
        generalize wr.alloc (.cells #[.int .i64 a[k].id,.int .i64 a[k].kind,.slice sa a[k].links.length sc,.string a[k].text] 58) = W at *
        refine hf.mono ?_
        clear hf
        rintro e W1 ⟨ta,tc,rfl,hta,hb1⟩
        have hA1:=below_alloc W1 (.cells #[.int .i64 b[i].id,.int .i64 b[i].kind,.slice ta b[i].links.length tc,.string b[i].text] 58)
        have kt:=heap_alloc_new W1 (.cells #[.int .i64 b[i].id,.int .i64 b[i].kind,.slice ta b[i].links.length tc,.string b[i].text] 58)
        have hb2:=hb1.trans (hA1.mono hb1.size)
        have HB2:=HBA.trans (hb2.mono HBA.size)
        have SB:=SA.below hb2
        have hH2:=hH.below hb2
        have hta2:=hta.below hA1
        have ko2:=(hb2.block _ (heap_lt ko)).trans ko
        obtain ⟨u0,u1,u2,u3⟩:=c4_of ko2
        obtain ⟨t0,t1,t2,t3⟩:=c4_of kt
        have hsm:=diffSame_any a[k] b[i] sa sc ta tc _ hH2 hta2 HXE.out HYE.out
        clear hA1 hb1 hb2 HBA SA hH ko z0 y0 y1 y2 y3 hta
        go_wp2_with fail
        generalize W1.alloc (.cells #[.int .i64 b[i].id,.int .i64 b[i].kind,.slice ta b[i].links.length tc,.string b[i].text] 58) = W2 at *
        refine hsm.mono ?_
        clear hsm
        rintro e W3 ⟨r,rfl,hr,hb3⟩
        have HB3:=HB2.trans (hb3.mono HB2.size)
        have S3:=SB.below hb3
        clear hb3 HB2 SB hH2 hta2 ko2 kt u0 u1 u2 u3 t0 t1 t2 t3
        cases r with
        | true =>
          have hxy:=hr.1 rfl
          have HT0 : Hid (takeE b a[k] = 0):=by unfold Hid;rw [HT.out,← hxy,sameO_refl];rfl
          have HM : Hid (rs.map Pl.x = missL (a.take (k + 1)) b):=by
            unfold Hid
            rw [hrs.out,missL_take hlt,if_neg (by have:=HPL.out;omega),List.append_nil]
          have HD2 : Hid (dupE b a = dupE b (a.drop (k + 1))):=by
            unfold Hid
            rw [HD.out,dupE_drop hlt,if_neg (fun e=>e HT0.out)]
          clear hr hxy hrs HD HT
          go_wp2
          go_roundw
          case rel=>exact ⟨k + 1,_,_,by go_num,rfl,by omega,HM,S3,HB3,HD2⟩
          case measure=>simp [intOf];omega
        | false =>
          have HF : Hid (PO (.returned (.tuple #[.slice none 0 0,.int .i64 6])) W3):=by
            unfold Hid
            rw [HPO.out]
            refine DiffPost.bad ?_ (by decide) HB3
            have hs : sameO b[i].id b[i].kind b[i].links b[i].text a[k].id a[k].kind a[k].links a[k].text = false:=by
              cases hq : sameO b[i].id b[i].kind b[i].links b[i].text a[k].id a[k].kind a[k].links a[k].text with
              | false=>rfl
              | true=>have:=hr.2 (sameO_eq hq).symm;cases this
            have ht : takeE b a[k] = 6:=by rw [HT.out,hs];rfl
            rw [HDE.out,HD.out,dupE_drop hlt,if_pos (by rw [ht];decide),ht]
          clear hr hrs HD HT S3 HB3
          go_wp2
          exact HF.out
    · have HF : Hid (PO (.returned (.tuple #[.slice g0 m0 c0,.int .i64 0])) wr):=by
        unfold Hid
        rw [HPO.out]
        refine ⟨HB,.inr ⟨?_,_,rs,rfl,?_,SH⟩⟩
        · rw [HDE.out,HD.out,List.drop_of_length_le (by omega)];rfl
        · rw [hrs.out,List.take_of_length_le (by omega)]
      clear SH HB HD hrs
      go_wp2
      exact HF.out
end

section
open Go.RowKit
set_option maxRecDepth 100000
def fchkE (n r : Rp) : Int:=if n.err ≠ 0 then n.err else if r.err ≠ 0 then r.err else if n.g < r.g then 4 else 0
set_option maxHeartbeats 2000000 in
theorem fcheck_any (n r : Rq) (w : World) (hg : Glob w) (hn : n.H w) (hr : r.H w) :
    Calls Tryz.prog 73 #[n.val,r.val] w fun e w'=>e = .returned (.int .i64 (fchkE n.r r.r)) ∧ Below w.heap.size w w':=by
  have hA:=below_alloc2 w n.blk r.blk
  obtain ⟨k0,k1⟩:=two_blocks w n.blk r.blk
  obtain ⟨y0,y1,y2,y3,y4,y5,y6⟩:=c7_of k0
  have hc:=repCheck_any n.aS n.cs n.r.s n.al n.cl n.r.l n.r.g n.r.ph n.a1 n.c1 n.r.m n.a2 n.c2 n.r.us n.r.f _ (hg.below hA) (hn.below hA)
  have HE : Hid (fchkE n.r r.r = if n.r.err ≠ 0 then n.r.err else if r.r.err ≠ 0 then r.r.err else if n.r.g < r.r.g then 4 else 0):=rfl
  go_enter Tryz.func73,Tryz.ntmps73
  go_wp2_with fail
  refine hc.mono ?_
  clear hc
  rintro e w1 ⟨rfl,hb1⟩
  have hB1:=hA.trans (hb1.mono hA.size)
  have j0:=(hb1.block _ (heap_lt k0)).trans k0
  have j1:=(hb1.block _ (heap_lt k1)).trans k1
  clear hb1 hA k0 k1 y0 y1 y2 y3 y4 y5 y6
  change Hid (_ = if repE n.r.s n.r.l n.r.g n.r.ph n.r.m n.r.us n.r.f ≠ 0 then repE n.r.s n.r.l n.r.g n.r.ph n.r.m n.r.us n.r.f else _) at HE
  by_cases c1 : repE n.r.s n.r.l n.r.g n.r.ph n.r.m n.r.us n.r.f = 0
  case neg =>
    have HR : Hid (fchkE n.r r.r = repE n.r.s n.r.l n.r.g n.r.ph n.r.m n.r.us n.r.f):=by unfold Hid;rw [HE.out,if_pos c1]
    have z1 : (repE n.r.s n.r.l n.r.g n.r.ph n.r.m n.r.us n.r.f != 0) = true:=by simpa using c1
    clear c1 j0 j1 HE
    go_wp2
    go_ret
    exact ⟨ret_int HR.out.symm,hB1⟩
  have HE1 : Hid (fchkE n.r r.r = if repE r.r.s r.r.l r.r.g r.r.ph r.r.m r.r.us r.r.f ≠ 0 then repE r.r.s r.r.l r.r.g r.r.ph r.r.m r.r.us r.r.f else if n.r.g < r.r.g then 4 else 0):=by unfold Hid;rw [HE.out,if_neg (fun e=>e c1)];rfl
  rw [c1]
  clear c1 HE
  obtain ⟨y0,y1,y2,y3,y4,y5,y6⟩:=c7_of j1
  have hc:=repCheck_any r.aS r.cs r.r.s r.al r.cl r.r.l r.r.g r.r.ph r.a1 r.c1 r.r.m r.a2 r.c2 r.r.us r.r.f w1 (hg.below hB1) (hr.below hB1)
  go_wp2_with fail
  refine hc.mono ?_
  clear hc
  rintro e w2 ⟨rfl,hb2⟩
  have hB2:=hB1.trans (hb2.mono hB1.size)
  have i0:=(hb2.block _ (heap_lt j0)).trans j0
  have i1:=(hb2.block _ (heap_lt j1)).trans j1
  clear hb2 hB1 j0 j1 y0 y1 y2 y3 y4 y5 y6
  by_cases c1 : repE r.r.s r.r.l r.r.g r.r.ph r.r.m r.r.us r.r.f = 0
  case neg =>
    have HR : Hid (fchkE n.r r.r = repE r.r.s r.r.l r.r.g r.r.ph r.r.m r.r.us r.r.f):=by unfold Hid;rw [HE1.out,if_pos c1]
    have z1 : (repE r.r.s r.r.l r.r.g r.r.ph r.r.m r.r.us r.r.f != 0) = true:=by simpa using c1
    clear c1 i0 i1 HE1
    go_wp2
    go_ret
    exact ⟨ret_int HR.out.symm,hB2⟩
  have HE2 : Hid (fchkE n.r r.r = if n.r.g < r.r.g then 4 else 0):=by unfold Hid;rw [HE1.out,if_neg (fun e=>e c1)]
  rw [c1]
  clear c1 HE1
  obtain ⟨y0,y1,y2,y3,y4,y5,y6⟩:=c7_of i0
  obtain ⟨x0,x1,x2,x3,x4,x5,x6⟩:=c7_of i1
  by_cases c : n.r.g < r.r.g
  · have HR : Hid (fchkE n.r r.r = 4) := by unfold Hid; rw [HE2.out, if_pos c]
    have zt : decide (n.r.g < r.r.g) = true:=decide_eq_true c
    clear c HE2
    go_wp2
    go_ret
    exact ⟨ret_int HR.out.symm,hB2⟩
  · have HR : Hid (fchkE n.r r.r = 0) := by unfold Hid; rw [HE2.out, if_neg c]
    have zt : decide (n.r.g < r.r.g) = false:=decide_eq_false c
    clear c HE2
    go_wp2
    go_ret
    exact ⟨ret_int HR.out.symm,hB2⟩
end
end Go.Proofs.YtehmlpkapjdhkaaGreatDoor
