import Derived.Test.YtehmlpkapjdhkaaGreatDoorMU
import Derived.Test.YtehmlpkapjdhkaaGreatDoorMK1
namespace Go.Proofs.YtehmlpkapjdhkaaGreatDoor
section
open Go.RowKit
set_option maxRecDepth 100000
theorem sameR_iff {x y : Rf} : sameR x y = true ↔ x = y:=by
  unfold sameR
  constructor
  · intro h
    simp only [Bool.and_eq_true,beq_iff_eq] at h
    cases x;cases y
    simp only [Rf.mk.injEq]
    exact ⟨ByteArray.ext (Array.toList_inj.1 (by simpa [ByteArray.toList_eq] using h.1)),h.2⟩
  · rintro rfl;simp
theorem neqR2 (n1 n2 : ByteArray) (i1 i2 : Int) (w : World) : (binOp .neq 65 (.agg #[.string n1,.int .i64 i1]) (.agg #[.string n2,.int .i64 i2])).run Tryz.prog w = .ok (.bool (!sameR ⟨n1,i1⟩ ⟨n2,i2⟩)) w:=neqR ⟨n1,i1⟩ ⟨n2,i2⟩ w
def sameU3 (x y : Up) : Bool:=x.name.toList == y.name.toList && x.old == y.old && x.new == y.new
theorem neqU2 (n1 n2 : ByteArray) (i1 i2 j1 j2 : Int) (w : World) : (binOp .neq 40 (.agg #[.string n1,.int .i64 i1,.int .i64 j1]) (.agg #[.string n2,.int .i64 i2,.int .i64 j2])).run Tryz.prog w = .ok (.bool (!sameU3 ⟨n1,i1,j1⟩ ⟨n2,i2,j2⟩)) w:=by
  have u3:=Tryz.underlying3
  have a3:=Tryz.isAgg3
  have z3:=Tryz.sizeOf3
  have u9:=Tryz.underlying9
  have a9:=Tryz.isAgg9
  have z9:=Tryz.sizeOf9
  have hS : Tryz.prog.underlying 40 = some (.struct (Tryz.prog.fieldsOf 40)):=by kernel_rfl
  have hp : Tryz.prog.stoodInHeld 40 = false:=by kernel_rfl
  rw [run_neq_struct,show (10000 : Nat) = 9999 + 1 from rfl,run_equalIn_agg w 9999 40 _ _ hS hp]
  simp only [Program.fieldsOf,Tryz.underlying40]
  go_simp
  unfold sameU3
  by_cases h1 : n1.toList = n2.toList <;> by_cases h2 : i1 = i2 <;> by_cases h3 : j1 = j2 <;> simp [h1,h2,h3]
theorem sameU3_iff {x y : Up} : sameU3 x y = true ↔ x = y:=by
  unfold sameU3
  constructor
  · intro h
    simp only [Bool.and_eq_true,beq_iff_eq] at h
    cases x;cases y
    simp only [Up.mk.injEq]
    exact ⟨ByteArray.ext (Array.toList_inj.1 (by simpa [ByteArray.toList_eq] using h.1.1)),h.1.2,h.2⟩
  · rintro rfl;simp
theorem bool_no {b : Bool} {P : Prop} (h : b = true ↔ P) (hP : ¬ P) : b = false:=by
  cases b
  · rfl
  · exact absurd (h.1 rfl) hP
set_option maxHeartbeats 2000000 in
theorem sameRefs_any (a : Option Addr) (c : Nat) (l : List Rf) (a2 : Option Addr) (c2 : Nat) (l2 : List Rf) (w : World) (h : HoldsR w a l) (h2 : HoldsR w a2 l2) (hl : l.length ≤ 9223372036854775807) :
    Calls Tryz.prog 22 #[.slice a l.length c,.slice a2 l2.length c2] w fun e w'=>∃ r,e = .returned (.bool r) ∧ (r = true ↔ l = l2) ∧ Below w.heap.size w w':=by
  by_cases hn : l.length = l2.length
  case neg =>
    have zn : ((l.length : Int) != (l2.length : Int)) = true:=by simpa using (by omega : ¬ ((l.length : Int) = (l2.length : Int)))
    have HN : Hid (¬ l = l2):=fun e=>hn (by rw [e])
    clear hn
    go_enter Tryz.func22,Tryz.ntmps22
    go_wp2
    go_ret
    exact ⟨false,rfl,⟨fun e=>(by cases e),fun e=>absurd e HN.out⟩,Below.refl _ _⟩
  rw [← hn]
  have HN : Hid (l.length = l2.length):=hn
  clear hn
  go_enter Tryz.func22,Tryz.ntmps22
  go_wp2
  go_loopw [5] (fun i wr=>∃ k : Nat,i = .int .i64 k ∧ k ≤ l.length ∧ Below w.heap.size w wr ∧ Hid (∀ j (h1 : j < l.length) (h2 : j < l2.length),j < k → l[j] = l2[j])) (fun i _=>l.length - (intOf i).toNat)
  case atStart=>exact ⟨0,rfl,Nat.zero_le _,Below.refl _ _,fun j _ _ h=>by omega⟩
  case round =>
    obtain ⟨k,rfl,hk,hB,HE⟩:=hrel
    by_cases hlt : k < l.length
    · have hlt' : (k : Int) < (l.length : Int) := by omega
      have hk2 : k < l2.length:=by have:=HN.out;omega
      obtain ⟨b,off,rfl,hb,hc⟩:=(h.below hB) k hlt
      obtain ⟨b2,off2,rfl,hb2,hc2⟩:=(h2.below hB) k hk2
      obtain ⟨x0,x1⟩:=hc k hlt
      obtain ⟨y0,y1⟩:=hc2 k hk2
      have HI : Hid (l[k] = l2[k] ∨ ¬ l[k] = l2[k]):=Classical.em _
      have HNX : Hid (l[k] = l2[k] → ∀ j (h1 : j < l.length) (h2 : j < l2.length),j < k + 1 → l[j] = l2[j]):=fun e j h1 h2 hj=>by
        rcases Nat.lt_or_ge j k with q | q
        · exact HE.out j h1 h2 q
        · have : j = k := by omega
          subst this;exact e
      have HNO : Hid (¬ l[k] = l2[k] → ¬ l = l2):=fun e q=>e (by subst q;rfl)
      have HS : Hid (∀ (_ : l[k] = l2[k]),sameR ⟨l[k].name,l[k].id⟩ ⟨l2[k].name,l2[k].id⟩ = true):=fun e=>(sameR_iff (x:=l[k]) (y:=l2[k])).2 e
      have HT : Hid (∀ (_ : ¬ l[k] = l2[k]),sameR ⟨l[k].name,l[k].id⟩ ⟨l2[k].name,l2[k].id⟩ = false):=fun e=>bool_no (sameR_iff (x:=l[k]) (y:=l2[k])) e
      have hgd:=fun op a b w=>run_eqGuard_agg (P:=Tryz.prog) w op 65 a b #[.string l[k].name,.int .i64 l[k].id] #[.string l2[k].name,.int .i64 l2[k].id] (by kernel_rfl)
      have hq:=neqR2 l[k].name l2[k].name l[k].id l2[k].id
      clear hc hc2 h h2
      go_wp2_with fail
      have hdr:=(Below.refl wr.heap.size wr).drew
      have hBD:=hB.trans (hdr.mono hB.size)
      have hS0 : ( (wr.drew.cell? ⟨b,off + k * 2,none⟩ = some (.string l[k].name) ∧ wr.drew.cell? ⟨b,off + k * 2 + 1,none⟩ = some (.int .i64 l[k].id)) ∧ (wr.drew.cell? ⟨b2,off2 + k * 2,none⟩ = some (.string l2[k].name) ∧ wr.drew.cell? ⟨b2,off2 + k * 2 + 1,none⟩ = some (.int .i64 l2[k].id))):=⟨⟨x0,x1⟩,⟨y0,y1⟩⟩
      refine wp_region_E (fun W=>(W.cell? ⟨b,off + k * 2,none⟩ = some (.string l[k].name) ∧ W.cell? ⟨b,off + k * 2 + 1,none⟩ = some (.int .i64 l[k].id)) ∧ (W.cell? ⟨b2,off2 + k * 2,none⟩ = some (.string l2[k].name) ∧ W.cell? ⟨b2,off2 + k * 2 + 1,none⟩ = some (.int .i64 l2[k].id))) (fun _=>false) (by kernel_rfl) hS0 (fun hS=>?_)
      generalize wr.drew = W0 at *
      clear hS0 hdr hB x0 x1 y0 y1
      refine wpAnyE.take (i:=0) (v:=?_) rfl (by kernel_rfl) (by kernel_rfl) (by kernel_rfl) (by kernel_rfl) (fun _ _ _ h=>h) (Or.inl ⟨by rfl,?_⟩) (by assumption) ?_
      rotate_left
      · intro w hSw;obtain ⟨⟨z0,z1⟩,⟨u0,u1⟩⟩:=hSw;go_simp;with_reducible rfl
      try simp only [Act.put,uA,uC,uD,uE,uF]
      refine wpAnyE.take (i:=1) (v:=?_) rfl (by kernel_rfl) (by kernel_rfl) (by kernel_rfl) (by kernel_rfl) (fun _ _ _ h=>h) (Or.inl ⟨by rfl,?_⟩) (by assumption) ?_
      rotate_left
      · intro w hSw;obtain ⟨⟨z0,z1⟩,⟨u0,u1⟩⟩:=hSw;go_simp;with_reducible rfl
      try simp only [Act.put,uA,uB,uC,uD,uE,uF]
      refine wpAnyE.take (i:=2) (v:=?_) rfl (by kernel_rfl) (by kernel_rfl) (by kernel_rfl) (by kernel_rfl) (fun _ _ _ h=>h) (Or.inl ⟨by rfl,?_⟩) (by assumption) ?_
      rotate_left
      · intro w hSw;obtain ⟨⟨z0,z1⟩,⟨u0,u1⟩⟩:=hSw;go_simp;with_reducible rfl
      try simp only [Act.put,uA,uB,uC,uD,uE,uF]
      refine wpAnyE.take (i:=3) (v:=?_) rfl (by kernel_rfl) (by kernel_rfl) (by kernel_rfl) (by kernel_rfl) (fun _ _ _ h=>h) (Or.inl ⟨by rfl,?_⟩) (by assumption) ?_
      rotate_left
      · intro w hSw;obtain ⟨⟨z0,z1⟩,⟨u0,u1⟩⟩:=hSw;go_simp;with_reducible rfl
      try simp only [Act.put,uA,uB,uC,uD,uE,uF]
      refine wpAnyE.take (i:=4) (v:=?_) rfl (by kernel_rfl) (by kernel_rfl) (by kernel_rfl) (by kernel_rfl) (fun _ _ _ h=>h) (Or.inl ⟨by rfl,?_⟩) (by assumption) ?_
      rotate_left
      · intro w hSw;obtain ⟨⟨z0,z1⟩,⟨u0,u1⟩⟩:=hSw;go_simp;with_reducible rfl
      try simp only [Act.put,uA,uB,uC,uD,uE,uF]
      refine wpAnyE.take (i:=5) (v:=?_) rfl (by kernel_rfl) (by kernel_rfl) (by kernel_rfl) (by kernel_rfl) (fun _ _ _ h=>h) (Or.inl ⟨by rfl,?_⟩) (by assumption) ?_
      rotate_left
      · intro w hSw;obtain ⟨⟨z0,z1⟩,⟨u0,u1⟩⟩:=hSw;go_simp;with_reducible rfl
      try simp only [Act.put,uA,uB,uC,uD,uE,uF]
      refine wpAnyE.take (i:=6) (v:=?_) rfl (by kernel_rfl) (by kernel_rfl) (by kernel_rfl) (by kernel_rfl) (fun _ _ _ h=>h) (Or.inl ⟨by rfl,?_⟩) (by assumption) ?_
      rotate_left
      · intro w hSw;obtain ⟨⟨z0,z1⟩,⟨u0,u1⟩⟩:=hSw;go_simp;with_reducible rfl
      try simp only [Act.put,uA,uB,uC,uD,uE,uF]
      refine wpAnyE.take (i:=7) (v:=?_) rfl (by kernel_rfl) (by kernel_rfl) (by kernel_rfl) (by kernel_rfl) (fun _ _ _ h=>h) (Or.inl ⟨by rfl,?_⟩) (by assumption) ?_
      rotate_left
      · intro w hSw;obtain ⟨⟨z0,z1⟩,⟨u0,u1⟩⟩:=hSw;go_simp;with_reducible rfl
      try simp only [Act.put,uA,uB,uC,uD,uE,uF]
      refine wpAnyE.take (i:=8) (v:=?_) rfl (by kernel_rfl) (by kernel_rfl) (by kernel_rfl) (by kernel_rfl) (fun _ _ _ h=>h) (Or.inl ⟨by rfl,?_⟩) (by assumption) ?_
      rotate_left
      · intro w hSw;obtain ⟨⟨z0,z1⟩,⟨u0,u1⟩⟩:=hSw;go_simp;with_reducible rfl
      try simp only [Act.put,uA,uB,uC,uD,uE,uF]
      refine wpAnyE.done (by kernel_rfl) ?_
      clear hS
      rcases HI.out with he | he
      · have hs := HS.out he
        rw [hs]
        have HX : Hid (∀ j (h1 : j < l.length) (h2 : j < l2.length),j < k + 1 → l[j] = l2[j]):=HNX.out he
        clear HE HNX HNO HS HT HI he hs
        go_wp2
        go_roundw
        case rel=>exact ⟨k + 1,by go_num,by omega,hBD,HX⟩
        case measure=>simp [intOf];omega
      · have hs := HT.out he
        rw [hs]
        have HX : Hid (¬ l = l2):=HNO.out he
        clear HE HNX HNO HS HT HI he hs
        go_wp2
        go_ret
        exact ⟨false,rfl,⟨fun e=>(by cases e),fun e=>absurd e HX.out⟩,hBD⟩
    · have hkl : k = l.length := by omega
      have HX : Hid (l = l2):=List.ext_getElem HN.out (fun j h1 h2=>HE.out j h1 h2 (by omega))
      clear HE
      subst hkl
      go_wp2
      go_ret
      exact ⟨true,rfl,⟨fun _=>HX.out,fun _=>rfl⟩,hB⟩
set_option maxHeartbeats 2000000 in
theorem equalRefs_any (a : Option Addr) (c : Nat) (l : List Rf) (a2 : Option Addr) (c2 : Nat) (l2 : List Rf) (w : World) (h : HoldsR w a l) (h2 : HoldsR w a2 l2) (hl : l.length ≤ 9223372036854775807) :
    Calls Tryz.prog 103 #[.slice a l.length c,.slice a2 l2.length c2] w fun e w'=>∃ r,e = .returned (.bool r) ∧ (r = true ↔ l = l2) ∧ Below w.heap.size w w':=by
  by_cases hn : l.length = l2.length
  case neg =>
    have zn : ((l.length : Int) != (l2.length : Int)) = true:=by simpa using (by omega : ¬ ((l.length : Int) = (l2.length : Int)))
    have HN : Hid (¬ l = l2):=fun e=>hn (by rw [e])
    clear hn
    go_enter Tryz.func103,Tryz.ntmps103
    go_wp2
    go_ret
    exact ⟨false,rfl,⟨fun e=>(by cases e),fun e=>absurd e HN.out⟩,Below.refl _ _⟩
  rw [← hn]
  have HN : Hid (l.length = l2.length):=hn
  clear hn
  go_enter Tryz.func103,Tryz.ntmps103
  go_wp2
  go_loopw [13] (fun i wr=>∃ k : Nat,i = .int .i64 k ∧ k ≤ l.length ∧ Below w.heap.size w wr ∧ Hid (∀ j (h1 : j < l.length) (h2 : j < l2.length),j < k → l[j] = l2[j])) (fun i _=>l.length - (intOf i).toNat)
  case atStart=>exact ⟨0,rfl,Nat.zero_le _,Below.refl _ _,fun j _ _ h=>by omega⟩
  case round =>
    obtain ⟨k,rfl,hk,hB,HE⟩:=hrel
    by_cases hlt : k < l.length
    · have hlt' : (k : Int) < (l.length : Int) := by omega
      have hk2 : k < l2.length:=by have:=HN.out;omega
      obtain ⟨b,off,rfl,hb,hc⟩:=(h.below hB) k hlt
      obtain ⟨b2,off2,rfl,hb2,hc2⟩:=(h2.below hB) k hk2
      obtain ⟨x0,x1⟩:=hc k hlt
      obtain ⟨y0,y1⟩:=hc2 k hk2
      have HI : Hid (l[k] = l2[k] ∨ ¬ l[k] = l2[k]):=Classical.em _
      have HNX : Hid (l[k] = l2[k] → ∀ j (h1 : j < l.length) (h2 : j < l2.length),j < k + 1 → l[j] = l2[j]):=fun e j h1 h2 hj=>by
        rcases Nat.lt_or_ge j k with q | q
        · exact HE.out j h1 h2 q
        · have : j = k := by omega
          subst this;exact e
      have HNO : Hid (¬ l[k] = l2[k] → ¬ l = l2):=fun e q=>e (by subst q;rfl)
      have HS : Hid (∀ (_ : l[k] = l2[k]),sameR ⟨l[k].name,l[k].id⟩ ⟨l2[k].name,l2[k].id⟩ = true):=fun e=>(sameR_iff (x:=l[k]) (y:=l2[k])).2 e
      have HT : Hid (∀ (_ : ¬ l[k] = l2[k]),sameR ⟨l[k].name,l[k].id⟩ ⟨l2[k].name,l2[k].id⟩ = false):=fun e=>bool_no (sameR_iff (x:=l[k]) (y:=l2[k])) e
      have hgd:=fun op a b w=>run_eqGuard_agg (P:=Tryz.prog) w op 65 a b #[.string l[k].name,.int .i64 l[k].id] #[.string l2[k].name,.int .i64 l2[k].id] (by kernel_rfl)
      have hq:=neqR2 l[k].name l2[k].name l[k].id l2[k].id
      clear hc hc2 h h2
      go_wp2_with fail
      have hdr:=(Below.refl wr.heap.size wr).drew
      have hBD:=hB.trans (hdr.mono hB.size)
      have hS0 : ( (wr.drew.cell? ⟨b,off + k * 2,none⟩ = some (.string l[k].name) ∧ wr.drew.cell? ⟨b,off + k * 2 + 1,none⟩ = some (.int .i64 l[k].id)) ∧ (wr.drew.cell? ⟨b2,off2 + k * 2,none⟩ = some (.string l2[k].name) ∧ wr.drew.cell? ⟨b2,off2 + k * 2 + 1,none⟩ = some (.int .i64 l2[k].id))):=⟨⟨x0,x1⟩,⟨y0,y1⟩⟩
      refine wp_region_E (fun W=>(W.cell? ⟨b,off + k * 2,none⟩ = some (.string l[k].name) ∧ W.cell? ⟨b,off + k * 2 + 1,none⟩ = some (.int .i64 l[k].id)) ∧ (W.cell? ⟨b2,off2 + k * 2,none⟩ = some (.string l2[k].name) ∧ W.cell? ⟨b2,off2 + k * 2 + 1,none⟩ = some (.int .i64 l2[k].id))) (fun _=>false) (by kernel_rfl) hS0 (fun hS=>?_)
      generalize wr.drew = W0 at *
      clear hS0 hdr hB x0 x1 y0 y1
      refine wpAnyE.take (i:=0) (v:=?_) rfl (by kernel_rfl) (by kernel_rfl) (by kernel_rfl) (by kernel_rfl) (fun _ _ _ h=>h) (Or.inl ⟨by rfl,?_⟩) (by assumption) ?_
      rotate_left
      · intro w hSw;obtain ⟨⟨z0,z1⟩,⟨u0,u1⟩⟩:=hSw;go_simp;with_reducible rfl
      try simp only [Act.put,uA,uC,uD,uE,uF]
      refine wpAnyE.take (i:=1) (v:=?_) rfl (by kernel_rfl) (by kernel_rfl) (by kernel_rfl) (by kernel_rfl) (fun _ _ _ h=>h) (Or.inl ⟨by rfl,?_⟩) (by assumption) ?_
      rotate_left
      · intro w hSw;obtain ⟨⟨z0,z1⟩,⟨u0,u1⟩⟩:=hSw;go_simp;with_reducible rfl
      try simp only [Act.put,uA,uB,uC,uD,uE,uF]
      refine wpAnyE.take (i:=2) (v:=?_) rfl (by kernel_rfl) (by kernel_rfl) (by kernel_rfl) (by kernel_rfl) (fun _ _ _ h=>h) (Or.inl ⟨by rfl,?_⟩) (by assumption) ?_
      rotate_left
      · intro w hSw;obtain ⟨⟨z0,z1⟩,⟨u0,u1⟩⟩:=hSw;go_simp;with_reducible rfl
      try simp only [Act.put,uA,uB,uC,uD,uE,uF]
      refine wpAnyE.take (i:=3) (v:=?_) rfl (by kernel_rfl) (by kernel_rfl) (by kernel_rfl) (by kernel_rfl) (fun _ _ _ h=>h) (Or.inl ⟨by rfl,?_⟩) (by assumption) ?_
      rotate_left
      · intro w hSw;obtain ⟨⟨z0,z1⟩,⟨u0,u1⟩⟩:=hSw;go_simp;with_reducible rfl
      try simp only [Act.put,uA,uB,uC,uD,uE,uF]
      refine wpAnyE.take (i:=4) (v:=?_) rfl (by kernel_rfl) (by kernel_rfl) (by kernel_rfl) (by kernel_rfl) (fun _ _ _ h=>h) (Or.inl ⟨by rfl,?_⟩) (by assumption) ?_
      rotate_left
      · intro w hSw;obtain ⟨⟨z0,z1⟩,⟨u0,u1⟩⟩:=hSw;go_simp;with_reducible rfl
      try simp only [Act.put,uA,uB,uC,uD,uE,uF]
      refine wpAnyE.take (i:=5) (v:=?_) rfl (by kernel_rfl) (by kernel_rfl) (by kernel_rfl) (by kernel_rfl) (fun _ _ _ h=>h) (Or.inl ⟨by rfl,?_⟩) (by assumption) ?_
      rotate_left
      · intro w hSw;obtain ⟨⟨z0,z1⟩,⟨u0,u1⟩⟩:=hSw;go_simp;with_reducible rfl
      try simp only [Act.put,uA,uB,uC,uD,uE,uF]
      refine wpAnyE.take (i:=6) (v:=?_) rfl (by kernel_rfl) (by kernel_rfl) (by kernel_rfl) (by kernel_rfl) (fun _ _ _ h=>h) (Or.inl ⟨by rfl,?_⟩) (by assumption) ?_
      rotate_left
      · intro w hSw;obtain ⟨⟨z0,z1⟩,⟨u0,u1⟩⟩:=hSw;go_simp;with_reducible rfl
      try simp only [Act.put,uA,uB,uC,uD,uE,uF]
      refine wpAnyE.take (i:=7) (v:=?_) rfl (by kernel_rfl) (by kernel_rfl) (by kernel_rfl) (by kernel_rfl) (fun _ _ _ h=>h) (Or.inl ⟨by rfl,?_⟩) (by assumption) ?_
      rotate_left
      · intro w hSw;obtain ⟨⟨z0,z1⟩,⟨u0,u1⟩⟩:=hSw;go_simp;with_reducible rfl
      try simp only [Act.put,uA,uB,uC,uD,uE,uF]
      refine wpAnyE.take (i:=8) (v:=?_) rfl (by kernel_rfl) (by kernel_rfl) (by kernel_rfl) (by kernel_rfl) (fun _ _ _ h=>h) (Or.inl ⟨by rfl,?_⟩) (by assumption) ?_
      rotate_left
      · intro w hSw;obtain ⟨⟨z0,z1⟩,⟨u0,u1⟩⟩:=hSw;go_simp;with_reducible rfl
      try simp only [Act.put,uA,uB,uC,uD,uE,uF]
      refine wpAnyE.done (by kernel_rfl) ?_
      clear hS
      rcases HI.out with he | he
      · have hs := HS.out he
        rw [hs]
        have HX : Hid (∀ j (h1 : j < l.length) (h2 : j < l2.length),j < k + 1 → l[j] = l2[j]):=HNX.out he
        clear HE HNX HNO HS HT HI he hs
        go_wp2
        go_roundw
        case rel=>exact ⟨k + 1,by go_num,by omega,hBD,HX⟩
        case measure=>simp [intOf];omega
      · have hs := HT.out he
        rw [hs]
        have HX : Hid (¬ l = l2):=HNO.out he
        clear HE HNX HNO HS HT HI he hs
        go_wp2
        go_ret
        exact ⟨false,rfl,⟨fun e=>(by cases e),fun e=>absurd e HX.out⟩,hBD⟩
    · have hkl : k = l.length := by omega
      have HX : Hid (l = l2):=List.ext_getElem HN.out (fun j h1 h2=>HE.out j h1 h2 (by omega))
      clear HE
      subst hkl
      go_wp2
      go_ret
      exact ⟨true,rfl,⟨fun _=>HX.out,fun _=>rfl⟩,hB⟩
set_option maxHeartbeats 2000000 in
theorem sameUps_any (a : Option Addr) (c : Nat) (l : List Up) (a2 : Option Addr) (c2 : Nat) (l2 : List Up) (w : World) (h : HoldsU w a l) (h2 : HoldsU w a2 l2) (hl : l.length ≤ 9223372036854775807) :
    Calls Tryz.prog 63 #[.slice a l.length c,.slice a2 l2.length c2] w fun e w'=>∃ r,e = .returned (.bool r) ∧ (r = true ↔ l = l2) ∧ Below w.heap.size w w':=by
  by_cases hn : l.length = l2.length
  case neg =>
    have zn : ((l.length : Int) != (l2.length : Int)) = true:=by simpa using (by omega : ¬ ((l.length : Int) = (l2.length : Int)))
    have HN : Hid (¬ l = l2):=fun e=>hn (by rw [e])
    clear hn
    go_enter Tryz.func63,Tryz.ntmps63
    go_wp2
    go_ret
    exact ⟨false,rfl,⟨fun e=>(by cases e),fun e=>absurd e HN.out⟩,Below.refl _ _⟩
  rw [← hn]
  have HN : Hid (l.length = l2.length):=hn
  clear hn
  go_enter Tryz.func63,Tryz.ntmps63
  go_wp2
  go_loopw [5] (fun i wr=>∃ k : Nat,i = .int .i64 k ∧ k ≤ l.length ∧ Below w.heap.size w wr ∧ Hid (∀ j (h1 : j < l.length) (h2 : j < l2.length),j < k → l[j] = l2[j])) (fun i _=>l.length - (intOf i).toNat)
  case atStart=>exact ⟨0,rfl,Nat.zero_le _,Below.refl _ _,fun j _ _ h=>by omega⟩
  case round =>
    obtain ⟨k,rfl,hk,hB,HE⟩:=hrel
    by_cases hlt : k < l.length
    · have hlt' : (k : Int) < (l.length : Int) := by omega
      have hk2 : k < l2.length:=by have:=HN.out;omega
      obtain ⟨b,off,rfl,hb,hc⟩:=(h.below hB) k hlt
      obtain ⟨b2,off2,rfl,hb2,hc2⟩:=(h2.below hB) k hk2
      obtain ⟨x0,x1,x2⟩:=hc k hlt
      obtain ⟨y0,y1,y2⟩:=hc2 k hk2
      have HI : Hid (l[k] = l2[k] ∨ ¬ l[k] = l2[k]):=Classical.em _
      have HNX : Hid (l[k] = l2[k] → ∀ j (h1 : j < l.length) (h2 : j < l2.length),j < k + 1 → l[j] = l2[j]):=fun e j h1 h2 hj=>by
        rcases Nat.lt_or_ge j k with q | q
        · exact HE.out j h1 h2 q
        · have : j = k := by omega
          subst this;exact e
      have HNO : Hid (¬ l[k] = l2[k] → ¬ l = l2):=fun e q=>e (by subst q;rfl)
      have HS : Hid (∀ (_ : l[k] = l2[k]),sameU3 ⟨l[k].name,l[k].old,l[k].new⟩ ⟨l2[k].name,l2[k].old,l2[k].new⟩ = true):=fun e=>(sameU3_iff (x:=l[k]) (y:=l2[k])).2 e
      have HT : Hid (∀ (_ : ¬ l[k] = l2[k]),sameU3 ⟨l[k].name,l[k].old,l[k].new⟩ ⟨l2[k].name,l2[k].old,l2[k].new⟩ = false):=fun e=>bool_no (sameU3_iff (x:=l[k]) (y:=l2[k])) e
      have hgd:=fun op a b w=>run_eqGuard_agg (P:=Tryz.prog) w op 40 a b #[.string l[k].name,.int .i64 l[k].old,.int .i64 l[k].new] #[.string l2[k].name,.int .i64 l2[k].old,.int .i64 l2[k].new] (by kernel_rfl)
      have hq:=neqU2 l[k].name l2[k].name l[k].old l2[k].old l[k].new l2[k].new
      clear hc hc2 h h2
      go_wp2_with fail
      have hdr:=(Below.refl wr.heap.size wr).drew
      have hBD:=hB.trans (hdr.mono hB.size)
      have hS0 : ( (wr.drew.cell? ⟨b,off + k * 3,none⟩ = some (.string l[k].name) ∧ wr.drew.cell? ⟨b,off + k * 3 + 1,none⟩ = some (.int .i64 l[k].old) ∧ wr.drew.cell? ⟨b,off + k * 3 + 2,none⟩ = some (.int .i64 l[k].new)) ∧ (wr.drew.cell? ⟨b2,off2 + k * 3,none⟩ = some (.string l2[k].name) ∧ wr.drew.cell? ⟨b2,off2 + k * 3 + 1,none⟩ = some (.int .i64 l2[k].old) ∧ wr.drew.cell? ⟨b2,off2 + k * 3 + 2,none⟩ = some (.int .i64 l2[k].new))):=⟨⟨x0,x1,x2⟩,⟨y0,y1,y2⟩⟩
      refine wp_region_E (fun W=>(W.cell? ⟨b,off + k * 3,none⟩ = some (.string l[k].name) ∧ W.cell? ⟨b,off + k * 3 + 1,none⟩ = some (.int .i64 l[k].old) ∧ W.cell? ⟨b,off + k * 3 + 2,none⟩ = some (.int .i64 l[k].new)) ∧ (W.cell? ⟨b2,off2 + k * 3,none⟩ = some (.string l2[k].name) ∧ W.cell? ⟨b2,off2 + k * 3 + 1,none⟩ = some (.int .i64 l2[k].old) ∧ W.cell? ⟨b2,off2 + k * 3 + 2,none⟩ = some (.int .i64 l2[k].new))) (fun _=>false) (by kernel_rfl) hS0 (fun hS=>?_)
      generalize wr.drew = W0 at *
      clear hS0 hdr hB x0 x1 x2 y0 y1 y2
      refine wpAnyE.take (i:=0) (v:=?_) rfl (by kernel_rfl) (by kernel_rfl) (by kernel_rfl) (by kernel_rfl) (fun _ _ _ h=>h) (Or.inl ⟨by rfl,?_⟩) (by assumption) ?_
      rotate_left
      · intro w hSw;obtain ⟨⟨z0,z1,z2⟩,⟨u0,u1,u2⟩⟩:=hSw;go_simp;with_reducible rfl
      try simp only [Act.put,uA,uC,uD,uE,uF]
      refine wpAnyE.take (i:=1) (v:=?_) rfl (by kernel_rfl) (by kernel_rfl) (by kernel_rfl) (by kernel_rfl) (fun _ _ _ h=>h) (Or.inl ⟨by rfl,?_⟩) (by assumption) ?_
      rotate_left
      · intro w hSw;obtain ⟨⟨z0,z1,z2⟩,⟨u0,u1,u2⟩⟩:=hSw;go_simp;with_reducible rfl
      try simp only [Act.put,uA,uB,uC,uD,uE,uF]
      refine wpAnyE.take (i:=2) (v:=?_) rfl (by kernel_rfl) (by kernel_rfl) (by kernel_rfl) (by kernel_rfl) (fun _ _ _ h=>h) (Or.inl ⟨by rfl,?_⟩) (by assumption) ?_
      rotate_left
      · intro w hSw;obtain ⟨⟨z0,z1,z2⟩,⟨u0,u1,u2⟩⟩:=hSw;go_simp;with_reducible rfl
      try simp only [Act.put,uA,uB,uC,uD,uE,uF]
      refine wpAnyE.take (i:=3) (v:=?_) rfl (by kernel_rfl) (by kernel_rfl) (by kernel_rfl) (by kernel_rfl) (fun _ _ _ h=>h) (Or.inl ⟨by rfl,?_⟩) (by assumption) ?_
      rotate_left
      · intro w hSw;obtain ⟨⟨z0,z1,z2⟩,⟨u0,u1,u2⟩⟩:=hSw;go_simp;with_reducible rfl
      try simp only [Act.put,uA,uB,uC,uD,uE,uF]
      refine wpAnyE.take (i:=4) (v:=?_) rfl (by kernel_rfl) (by kernel_rfl) (by kernel_rfl) (by kernel_rfl) (fun _ _ _ h=>h) (Or.inl ⟨by rfl,?_⟩) (by assumption) ?_
      rotate_left
      · intro w hSw;obtain ⟨⟨z0,z1,z2⟩,⟨u0,u1,u2⟩⟩:=hSw;go_simp;with_reducible rfl
      try simp only [Act.put,uA,uB,uC,uD,uE,uF]
      refine wpAnyE.take (i:=5) (v:=?_) rfl (by kernel_rfl) (by kernel_rfl) (by kernel_rfl) (by kernel_rfl) (fun _ _ _ h=>h) (Or.inl ⟨by rfl,?_⟩) (by assumption) ?_
      rotate_left
      · intro w hSw;obtain ⟨⟨z0,z1,z2⟩,⟨u0,u1,u2⟩⟩:=hSw;go_simp;with_reducible rfl
      try simp only [Act.put,uA,uB,uC,uD,uE,uF]
      refine wpAnyE.take (i:=6) (v:=?_) rfl (by kernel_rfl) (by kernel_rfl) (by kernel_rfl) (by kernel_rfl) (fun _ _ _ h=>h) (Or.inl ⟨by rfl,?_⟩) (by assumption) ?_
      rotate_left
      · intro w hSw;obtain ⟨⟨z0,z1,z2⟩,⟨u0,u1,u2⟩⟩:=hSw;go_simp;with_reducible rfl
      try simp only [Act.put,uA,uB,uC,uD,uE,uF]
      refine wpAnyE.take (i:=7) (v:=?_) rfl (by kernel_rfl) (by kernel_rfl) (by kernel_rfl) (by kernel_rfl) (fun _ _ _ h=>h) (Or.inl ⟨by rfl,?_⟩) (by assumption) ?_
      rotate_left
      · intro w hSw;obtain ⟨⟨z0,z1,z2⟩,⟨u0,u1,u2⟩⟩:=hSw;go_simp;with_reducible rfl
      try simp only [Act.put,uA,uB,uC,uD,uE,uF]
      refine wpAnyE.take (i:=8) (v:=?_) rfl (by kernel_rfl) (by kernel_rfl) (by kernel_rfl) (by kernel_rfl) (fun _ _ _ h=>h) (Or.inl ⟨by rfl,?_⟩) (by assumption) ?_
      rotate_left
      · intro w hSw;obtain ⟨⟨z0,z1,z2⟩,⟨u0,u1,u2⟩⟩:=hSw;go_simp;with_reducible rfl
      try simp only [Act.put,uA,uB,uC,uD,uE,uF]
      refine wpAnyE.done (by kernel_rfl) ?_
      clear hS
      rcases HI.out with he | he
      · have hs := HS.out he
        rw [hs]
        have HX : Hid (∀ j (h1 : j < l.length) (h2 : j < l2.length),j < k + 1 → l[j] = l2[j]):=HNX.out he
        clear HE HNX HNO HS HT HI he hs
        go_wp2
        go_roundw
        case rel=>exact ⟨k + 1,by go_num,by omega,hBD,HX⟩
        case measure=>simp [intOf];omega
      · have hs := HT.out he
        rw [hs]
        have HX : Hid (¬ l = l2):=HNO.out he
        clear HE HNX HNO HS HT HI he hs
        go_wp2
        go_ret
        exact ⟨false,rfl,⟨fun e=>(by cases e),fun e=>absurd e HX.out⟩,hBD⟩
    · have hkl : k = l.length := by omega
      have HX : Hid (l = l2):=List.ext_getElem HN.out (fun j h1 h2=>HE.out j h1 h2 (by omega))
      clear HE
      subst hkl
      go_wp2
      go_ret
      exact ⟨true,rfl,⟨fun _=>HX.out,fun _=>rfl⟩,hB⟩
end

section
open Go.RowKit
set_option maxRecDepth 100000
theorem sameO_iff {x y : Ob} : sameO x.id x.kind x.links x.text y.id y.kind y.links y.text = true ↔ x = y:=by
  unfold sameO sameB
  constructor
  · intro h
    simp only [Bool.and_eq_true,decide_eq_true_eq] at h
    obtain ⟨⟨⟨h1,h2⟩,h3⟩,h4⟩:=h
    cases x;cases y
    simp only [Ob.mk.injEq]
    exact ⟨h1,h2,h4,ByteArray.ext (Array.toList_inj.1 (by simpa [ByteArray.toList_eq] using h3))⟩
  · rintro rfl;simp
set_option maxHeartbeats 2000000 in
theorem sameStore_any (a : Option Addr) (c : Nat) (l : List Ob) (a2 : Option Addr) (c2 : Nat) (l2 : List Ob) (w : World) (h : HoldsS w a l) (h2 : HoldsS w a2 l2) (hl : l.length ≤ 9223372036854775807) :
    Calls Tryz.prog 34 #[.slice a l.length c,.slice a2 l2.length c2] w fun e w'=>∃ r,e = .returned (.bool r) ∧ (r = true ↔ l = l2) ∧ Below w.heap.size w w':=by
  by_cases hn : l.length = l2.length
  case neg =>
    have zn : ((l.length : Int) != (l2.length : Int)) = true:=by simpa using (by omega : ¬ ((l.length : Int) = (l2.length : Int)))
    have HN : Hid (¬ l = l2):=fun e=>hn (by rw [e])
    clear hn
    go_enter Tryz.func34,Tryz.ntmps34
    go_wp2
    go_ret
    exact ⟨false,rfl,⟨fun e=>(by cases e),fun e=>absurd e HN.out⟩,Below.refl _ _⟩
  rw [← hn]
  have HN : Hid (l.length = l2.length):=hn
  clear hn
  go_enter Tryz.func34,Tryz.ntmps34
  go_wp2
  go_loopw [5] (fun i wr=>∃ k : Nat,i = .int .i64 k ∧ k ≤ l.length ∧ Below w.heap.size w wr ∧ Hid (∀ j (h1 : j < l.length) (h2 : j < l2.length),j < k → l[j] = l2[j])) (fun i _=>l.length - (intOf i).toNat)
  case atStart=>exact ⟨0,rfl,Nat.zero_le _,Below.refl _ _,fun j _ _ h=>by omega⟩
  case round =>
    obtain ⟨k,rfl,hk,hB,HE⟩:=hrel
    by_cases hlt : k < l.length
    · have hlt' : (k : Int) < (l.length : Int) := by omega
      have hk2 : k < l2.length:=by have:=HN.out;omega
      obtain ⟨b,off,rfl,hb,hc⟩:=(h.below hB) k hlt
      obtain ⟨b2,off2,rfl,hb2,hc2⟩:=(h2.below hB) k hk2
      obtain ⟨sa,sc,x0,x1,x2,x3,x4,x5⟩:=hc k hlt
      obtain ⟨ta,tc,y0,y1,y2,y3,y4,y5⟩:=hc2 k hk2
      have HI : Hid (l[k] = l2[k] ∨ ¬ l[k] = l2[k]):=Classical.em _
      have HNX : Hid (l[k] = l2[k] → ∀ j (h1 : j < l.length) (h2 : j < l2.length),j < k + 1 → l[j] = l2[j]):=fun e j h1 h2 hj=>by
        rcases Nat.lt_or_ge j k with q | q
        · exact HE.out j h1 h2 q
        · have : j = k := by omega
          subst this;exact e
      have HNO : Hid (¬ l[k] = l2[k] → ¬ l = l2):=fun e q=>e (by subst q;rfl)
      have HS : Hid (∀ (_ : l[k] = l2[k]),sameO l[k].id l[k].kind l[k].links l[k].text l2[k].id l2[k].kind l2[k].links l2[k].text = true):=fun e=>sameO_iff.2 e
      have HT : Hid (∀ (_ : ¬ l[k] = l2[k]),sameO l[k].id l[k].kind l[k].links l[k].text l2[k].id l2[k].kind l2[k].links l2[k].text = false):=fun e=>bool_no sameO_iff e
      clear hc hc2 h h2
      go_wp2_with fail
      have hdr:=(Below.refl wr.heap.size wr).drew
      have hBD:=hB.trans (hdr.mono hB.size)
      have hb' : b < wr.drew.heap.size:=hb
      have hb2' : b2 < wr.drew.heap.size:=hb2
      have hS0 : (wr.drew.cell? ⟨b,off + k * 4,none⟩ = some (.int .i64 l[k].id) ∧ wr.drew.cell? ⟨b,off + k * 4 + 1,none⟩ = some (.int .i64 l[k].kind) ∧ wr.drew.cell? ⟨b,off + k * 4 + 2,none⟩ = some (.slice sa l[k].links.length sc) ∧ wr.drew.cell? ⟨b,off + k * 4 + 3,none⟩ = some (.string l[k].text)) ∧ (wr.drew.cell? ⟨b2,off2 + k * 4,none⟩ = some (.int .i64 l2[k].id) ∧ wr.drew.cell? ⟨b2,off2 + k * 4 + 1,none⟩ = some (.int .i64 l2[k].kind) ∧ wr.drew.cell? ⟨b2,off2 + k * 4 + 2,none⟩ = some (.slice ta l2[k].links.length tc) ∧ wr.drew.cell? ⟨b2,off2 + k * 4 + 3,none⟩ = some (.string l2[k].text)):=⟨⟨x0,x1,x2,x3⟩,⟨y0,y1,y2,y3⟩⟩
      have hso:=sameObject_any l[k].id l[k].kind sa sc l[k].links l[k].text l2[k].id l2[k].kind ta tc l2[k].links l2[k].text _ (x4.below hdr) (y4.below hdr) x5
      refine wp_region_E (fun W=>(W.cell? ⟨b,off + k * 4,none⟩ = some (.int .i64 l[k].id) ∧ W.cell? ⟨b,off + k * 4 + 1,none⟩ = some (.int .i64 l[k].kind) ∧ W.cell? ⟨b,off + k * 4 + 2,none⟩ = some (.slice sa l[k].links.length sc) ∧ W.cell? ⟨b,off + k * 4 + 3,none⟩ = some (.string l[k].text)) ∧ (W.cell? ⟨b2,off2 + k * 4,none⟩ = some (.int .i64 l2[k].id) ∧ W.cell? ⟨b2,off2 + k * 4 + 1,none⟩ = some (.int .i64 l2[k].kind) ∧ W.cell? ⟨b2,off2 + k * 4 + 2,none⟩ = some (.slice ta l2[k].links.length tc) ∧ W.cell? ⟨b2,off2 + k * 4 + 3,none⟩ = some (.string l2[k].text))) (fun _=>false) (by kernel_rfl) hS0 (fun hS=>?_)
      generalize wr.drew = W0 at *
      clear hS0 hdr hB x0 x1 x2 x3 x4 y0 y1 y2 y3 y4
      refine wpAnyE.take (i:=0) (v:=?_) rfl (by kernel_rfl) (by kernel_rfl) (by kernel_rfl) (by kernel_rfl) (fun _ _ _ h=>h) (Or.inl ⟨by rfl,?_⟩) (by assumption) ?_
      rotate_left
      · intro w hSw;obtain ⟨⟨z0,z1,z2,z3⟩,⟨u0,u1,u2,u3⟩⟩:=hSw;go_simp;with_reducible rfl
      try simp only [Act.put,uA,uC,uD,uE,uF]
      refine wpAnyE.take (i:=1) (v:=?_) rfl (by kernel_rfl) (by kernel_rfl) (by kernel_rfl) (by kernel_rfl) (fun _ _ _ h=>h) (Or.inl ⟨by rfl,?_⟩) (by assumption) ?_
      rotate_left
      · intro w hSw;obtain ⟨⟨z0,z1,z2,z3⟩,⟨u0,u1,u2,u3⟩⟩:=hSw;go_simp;with_reducible rfl
      try simp only [Act.put,uA,uB,uC,uD,uE,uF]
      refine wpAnyE.take (i:=2) (v:=?_) rfl (by kernel_rfl) (by kernel_rfl) (by kernel_rfl) (by kernel_rfl) (fun _ _ _ h=>h) (Or.inl ⟨by rfl,?_⟩) (by assumption) ?_
      rotate_left
      · intro w hSw;obtain ⟨⟨z0,z1,z2,z3⟩,⟨u0,u1,u2,u3⟩⟩:=hSw;go_simp;with_reducible rfl
      try simp only [Act.put,uA,uB,uC,uD,uE,uF]
      refine wpAnyE.take (i:=3) (v:=?_) rfl (by kernel_rfl) (by kernel_rfl) (by kernel_rfl) (by kernel_rfl) (fun _ _ _ h=>h) (Or.inl ⟨by rfl,?_⟩) (by assumption) ?_
      rotate_left
      · intro w hSw;obtain ⟨⟨z0,z1,z2,z3⟩,⟨u0,u1,u2,u3⟩⟩:=hSw;go_simp;with_reducible rfl
      try simp only [Act.put,uA,uB,uC,uD,uE,uF]
      refine wpAnyE.take (i:=4) (v:=?_) rfl (by kernel_rfl) (by kernel_rfl) (by kernel_rfl) (by kernel_rfl) (fun _ _ _ h=>h) (Or.inl ⟨by rfl,?_⟩) (by assumption) ?_
      rotate_left
      · intro w hSw;obtain ⟨⟨z0,z1,z2,z3⟩,⟨u0,u1,u2,u3⟩⟩:=hSw;go_simp;with_reducible rfl
      try simp only [Act.put,uA,uB,uC,uD,uE,uF]
      refine wpAnyE.take (i:=5) (v:=?_) rfl (by kernel_rfl) (by kernel_rfl) (by kernel_rfl) (by kernel_rfl) (fun _ _ _ h=>h) (Or.inl ⟨by rfl,?_⟩) (by assumption) ?_
      rotate_left
      · intro w hSw;obtain ⟨⟨z0,z1,z2,z3⟩,⟨u0,u1,u2,u3⟩⟩:=hSw;go_simp;with_reducible rfl
      try simp only [Act.put,uA,uB,uC,uD,uE,uF]
      refine wpAnyE.take (i:=6) (v:=?_) rfl (by kernel_rfl) (by kernel_rfl) (by kernel_rfl) (by kernel_rfl) (fun _ _ _ h=>h) (Or.inl ⟨by rfl,?_⟩) (by assumption) ?_
      rotate_left
      · intro w hSw;obtain ⟨⟨z0,z1,z2,z3⟩,⟨u0,u1,u2,u3⟩⟩:=hSw;go_simp;with_reducible rfl
      try simp only [Act.put,uA,uB,uC,uD,uE,uF]
      refine wpAnyE.take (i:=7) (v:=?_) rfl (by kernel_rfl) (by kernel_rfl) (by kernel_rfl) (by kernel_rfl) (fun _ _ _ h=>h) (Or.inl ⟨by rfl,?_⟩) (by assumption) ?_
      rotate_left
      · intro w hSw;obtain ⟨⟨z0,z1,z2,z3⟩,⟨u0,u1,u2,u3⟩⟩:=hSw;go_simp;with_reducible rfl
      try simp only [Act.put,uA,uB,uC,uD,uE,uF]
      refine wpAnyE.one (i:=8) (by kernel_rfl) rfl (fun K hK=>?_)
      go_simp
      refine hso.mono ?_
      clear hso
      rintro e W1 ⟨rfl,hb1⟩
      have hB1:=hBD.trans (hb1.mono hBD.size)
      have hS1 : (W1.cell? ⟨b,off + k * 4,none⟩ = some (.int .i64 l[k].id) ∧ W1.cell? ⟨b,off + k * 4 + 1,none⟩ = some (.int .i64 l[k].kind) ∧ W1.cell? ⟨b,off + k * 4 + 2,none⟩ = some (.slice sa l[k].links.length sc) ∧ W1.cell? ⟨b,off + k * 4 + 3,none⟩ = some (.string l[k].text)) ∧ (W1.cell? ⟨b2,off2 + k * 4,none⟩ = some (.int .i64 l2[k].id) ∧ W1.cell? ⟨b2,off2 + k * 4 + 1,none⟩ = some (.int .i64 l2[k].kind) ∧ W1.cell? ⟨b2,off2 + k * 4 + 2,none⟩ = some (.slice ta l2[k].links.length tc) ∧ W1.cell? ⟨b2,off2 + k * 4 + 3,none⟩ = some (.string l2[k].text)):=by
        obtain ⟨⟨z0,z1,z2,z3⟩,⟨u0,u1,u2,u3⟩⟩:=hS
        exact ⟨⟨(hb1.cell (p:=⟨b,off + k * 4,none⟩) hb').trans z0,(hb1.cell (p:=⟨b,off + k * 4 + 1,none⟩) hb').trans z1,(hb1.cell (p:=⟨b,off + k * 4 + 2,none⟩) hb').trans z2,(hb1.cell (p:=⟨b,off + k * 4 + 3,none⟩) hb').trans z3⟩,⟨(hb1.cell (p:=⟨b2,off2 + k * 4,none⟩) hb2').trans u0,(hb1.cell (p:=⟨b2,off2 + k * 4 + 1,none⟩) hb2').trans u1,(hb1.cell (p:=⟨b2,off2 + k * 4 + 2,none⟩) hb2').trans u2,(hb1.cell (p:=⟨b2,off2 + k * 4 + 3,none⟩) hb2').trans u3⟩⟩
      go_simp
      refine hK _ _ (fun _=>hS1) ?_
      clear hK K hBD hb1
      try simp only [Act.put,uA,uB,uC,uD,uE,uF]
      refine wpAnyE.one (i:=9) (by kernel_rfl) rfl (fun K hK=>?_)
      go_simp
      refine hK _ _ (fun _=>hS1) ?_
      clear hK K
      try simp only [Act.put,uA,uB,uC,uD,uE,uF]
      refine wpAnyE.done (by kernel_rfl) ?_
      clear hS hS1
      rcases HI.out with he | he
      · have hs := HS.out he
        rw [hs]
        have HX : Hid (∀ j (h1 : j < l.length) (h2 : j < l2.length),j < k + 1 → l[j] = l2[j]):=HNX.out he
        clear HE HNX HNO HS HT HI he hs
        go_wp2
        go_roundw
        case rel=>exact ⟨k + 1,by go_num,by omega,hB1,HX⟩
        case measure=>simp [intOf];omega
      · have hs := HT.out he
        rw [hs]
        have HX : Hid (¬ l = l2):=HNO.out he
        clear HE HNX HNO HS HT HI he hs
        go_wp2
        go_ret
        exact ⟨false,rfl,⟨fun e=>(by cases e),fun e=>absurd e HX.out⟩,hB1⟩
    · have hkl : k = l.length := by omega
      have HX : Hid (l = l2):=List.ext_getElem HN.out (fun j h1 h2=>HE.out j h1 h2 (by omega))
      clear HE
      subst hkl
      go_wp2
      go_ret
      exact ⟨true,rfl,⟨fun _=>HX.out,fun _=>rfl⟩,hB⟩
structure Rp where
  s : List Ob
  l : List Rf
  g : Int
  ph : Int
  m : List Ob
  us : List Up
  f : Bool
set_option maxHeartbeats 2000000 in
theorem samePush_any (a : Option Addr) (c : Nat) (m : List Ob) (b : Option Addr) (d : Nat) (us : List Up) (f : Bool) (a2 : Option Addr) (c2 : Nat) (m2 : List Ob) (b2 : Option Addr) (d2 : Nat) (us2 : List Up) (f2 : Bool) (w : World)
    (hm : HoldsS w a m) (hu : HoldsU w b us) (hm2 : HoldsS w a2 m2) (hu2 : HoldsU w b2 us2) (lm : m.length ≤ 9223372036854775807) (lu : us.length ≤ 9223372036854775807) :
    Calls Tryz.prog 56 #[pushV a m.length c b us.length d f,pushV a2 m2.length c2 b2 us2.length d2 f2] w fun e w'=>∃ r,e = .returned (.bool r) ∧ (r = true ↔ (m = m2 ∧ us = us2 ∧ f = f2)) ∧ Below w.heap.size w w':=by
  have hB:=below_alloc2 w (.cells #[.slice a m.length c,.slice b us.length d,.bool f] 28) (.cells #[.slice a2 m2.length c2,.slice b2 us2.length d2,.bool f2] 28)
  obtain ⟨hk1,hk2⟩:=two_blocks w (.cells #[.slice a m.length c,.slice b us.length d,.bool f] 28) (.cells #[.slice a2 m2.length c2,.slice b2 us2.length d2,.bool f2] 28)
  obtain ⟨y0,y1,y2⟩:=c3_of hk1
  obtain ⟨z0,z1,z2⟩:=c3_of hk2
  have hss:=sameStore_any a c m a2 c2 m2 _ (hm.below hB) (hm2.below hB) lm
  go_enter Tryz.func56,Tryz.ntmps56
  go_wp2_with fail
  generalize (w.alloc (.cells #[.slice a m.length c,.slice b us.length d,.bool f] 28)).alloc (.cells #[.slice a2 m2.length c2,.slice b2 us2.length d2,.bool f2] 28) = W0 at *
  refine hss.mono ?_
  clear hss
  rintro e W1 ⟨r1,rfl,q1,hb1⟩
  have hB1:=hB.trans (hb1.mono hB.size)
  have k1:=(hb1.block _ (heap_lt hk1)).trans hk1
  have k2:=(hb1.block _ (heap_lt hk2)).trans hk2
  have Q1 : Hid (r1 = true ↔ m = m2):=q1
  clear hb1 hB hk1 hk2 y0 y1 y2 z0 z1 z2 q1
  obtain ⟨y0,y1,y2⟩:=c3_of k1
  obtain ⟨z0,z1,z2⟩:=c3_of k2
  cases r1 with
  | false =>
    go_wp2
    go_ret
    exact ⟨false,rfl,⟨fun e=>(by cases e),fun e=>Q1.out.2 e.1⟩,hB1⟩
  | true =>
  have E1 : Hid (m = m2):=Q1.out.1 rfl
  clear Q1
  have hsu:=sameUps_any b d us b2 d2 us2 W1 (hu.below hB1) (hu2.below hB1) lu
  go_wp2_with fail
  refine hsu.mono ?_
  clear hsu
  rintro e W2 ⟨r2,rfl,q2,hb2⟩
  have hB2:=hB1.trans (hb2.mono hB1.size)
  have k12:=(hb2.block _ (heap_lt k1)).trans k1
  have k22:=(hb2.block _ (heap_lt k2)).trans k2
  have Q2 : Hid (r2 = true ↔ us = us2):=q2
  clear hb2 hB1 k1 k2 y0 y1 y2 z0 z1 z2 q2
  obtain ⟨y0,y1,y2⟩:=c3_of k12
  obtain ⟨z0,z1,z2⟩:=c3_of k22
  cases r2 with
  | false =>
    go_wp2
    go_ret
    exact ⟨false,rfl,⟨fun e=>(by cases e),fun e=>Q2.out.2 e.2.1⟩,hB2⟩
  | true =>
  have E2 : Hid (us = us2):=Q2.out.1 rfl
  clear Q2
  have HS : Hid ((f == f2) = true ↔ f = f2):=beq_iff_eq
  go_wp2
  go_ret
  exact ⟨f == f2,rfl,⟨fun e=>⟨E1.out,E2.out,HS.out.1 e⟩,fun e=>HS.out.2 e.2.2⟩,hB2⟩
set_option maxHeartbeats 4000000 in
theorem sameRep_all (aS : Option Addr) (cs : Nat) (s : List Ob) (al : Option Addr) (cl : Nat) (l : List Rf) (g ph : Int) (a1 : Option Addr) (c1 : Nat) (m : List Ob) (a2 : Option Addr) (c2 : Nat) (us : List Up) (f : Bool)
    (bS : Option Addr) (ds : Nat) (s' : List Ob) (bl : Option Addr) (dl : Nat) (l' : List Rf) (g' ph' : Int) (b1 : Option Addr) (d1 : Nat) (m' : List Ob) (b2 : Option Addr) (d2 : Nat) (us' : List Up) (f' : Bool) (w : World)
    (H : RepH w aS s al l a1 m a2 us) (H' : RepH w bS s' bl l' b1 m' b2 us') :
    Calls Tryz.prog 14 #[RV aS cs s al cl l g ph a1 c1 m a2 c2 us f,RV bS ds s' bl dl l' g' ph' b1 d1 m' b2 d2 us' f'] w fun e w'=>∃ r,e = .returned (.bool r) ∧ (r = true ↔ ((⟨s,l,g,ph,m,us,f⟩ : Rp) = ⟨s',l',g',ph',m',us',f'⟩)) ∧ Below w.heap.size w w':=by
  have hB:=below_alloc2 w (RB aS cs s al cl l g ph a1 c1 m a2 c2 us f) (RB bS ds s' bl dl l' g' ph' b1 d1 m' b2 d2 us' f')
  obtain ⟨hk1,hk2⟩:=two_blocks w (RB aS cs s al cl l g ph a1 c1 m a2 c2 us f) (RB bS ds s' bl dl l' g' ph' b1 d1 m' b2 d2 us' f')
  obtain ⟨y0,y1,y2,y3,y4,y5,y6⟩:=c7_of hk1
  obtain ⟨z0,z1,z2,z3,z4,z5,z6⟩:=c7_of hk2
  have hss:=sameStore_any aS cs s bS ds s' _ (H.hs.below hB) (H'.hs.below hB) H.ns
  have HQ : Hid (((⟨s,l,g,ph,m,us,f⟩ : Rp) = ⟨s',l',g',ph',m',us',f'⟩) ↔ (s = s' ∧ l = l' ∧ g = g' ∧ ph = ph' ∧ m = m' ∧ us = us' ∧ f = f')):=by unfold Hid;simp only [Rp.mk.injEq]
  go_enter Tryz.func14,Tryz.ntmps14
  go_wp2_with fail
  generalize (w.alloc (RB aS cs s al cl l g ph a1 c1 m a2 c2 us f)).alloc (RB bS ds s' bl dl l' g' ph' b1 d1 m' b2 d2 us' f') = W0 at *
  refine hss.mono ?_
  clear hss
  rintro e W1 ⟨r1,rfl,q1,hb1⟩
  have hB1:=hB.trans (hb1.mono hB.size)
  have k1:=(hb1.block _ (heap_lt hk1)).trans hk1
  have k2:=(hb1.block _ (heap_lt hk2)).trans hk2
  have Q1 : Hid (r1 = true ↔ s = s'):=q1
  clear hb1 hB hk1 hk2 y0 y1 y2 y3 y4 y5 y6 z0 z1 z2 z3 z4 z5 z6 q1
  obtain ⟨y0,y1,y2,y3,y4,y5,y6⟩:=c7_of k1
  obtain ⟨z0,z1,z2,z3,z4,z5,z6⟩:=c7_of k2
  cases r1 with
  | false =>
    go_wp2
    go_ret
    exact ⟨false,rfl,⟨fun e=>(by cases e),fun e=>Q1.out.2 (HQ.out.1 e).1⟩,hB1⟩
  | true =>
  have E1 : Hid (s = s'):=Q1.out.1 rfl
  clear Q1
  have hsr:=sameRefs_any al cl l bl dl l' W1 (H.hl.below hB1) (H'.hl.below hB1) H.nl
  go_wp2_with fail
  refine hsr.mono ?_
  clear hsr
  rintro e W2 ⟨r2,rfl,q2,hb2⟩
  have hB2:=hB1.trans (hb2.mono hB1.size)
  have k12:=(hb2.block _ (heap_lt k1)).trans k1
  have k22:=(hb2.block _ (heap_lt k2)).trans k2
  have Q2 : Hid (r2 = true ↔ l = l'):=q2
  clear hb2 hB1 k1 k2 y0 y1 y2 y3 y4 y5 y6 z0 z1 z2 z3 z4 z5 z6 q2
  obtain ⟨y0,y1,y2,y3,y4,y5,y6⟩:=c7_of k12
  obtain ⟨z0,z1,z2,z3,z4,z5,z6⟩:=c7_of k22
  cases r2 with
  | false =>
    go_wp2
    go_ret
    exact ⟨false,rfl,⟨fun e=>(by cases e),fun e=>Q2.out.2 (HQ.out.1 e).2.1⟩,hB2⟩
  | true =>
  have E2 : Hid (l = l'):=Q2.out.1 rfl
  clear Q2
  by_cases hg : g = g'
  case neg =>
    have zg : (g == g') = false:=by simpa using hg
    have HG : Hid (¬ g = g'):=hg
    clear hg
    go_wp2
    go_ret
    exact ⟨false,rfl,⟨fun e=>(by cases e),fun e=>absurd (HQ.out.1 e).2.2.1 HG.out⟩,hB2⟩
  have zg : (g == g') = true:=by simpa using hg
  have HG : Hid (g = g'):=hg
  clear hg
  by_cases hp : ph = ph'
  case neg =>
    have zp : (ph == ph') = false:=by simpa using hp
    have HP : Hid (¬ ph = ph'):=hp
    clear hp
    go_wp2
    go_ret
    exact ⟨false,rfl,⟨fun e=>(by cases e),fun e=>absurd (HQ.out.1 e).2.2.2.1 HP.out⟩,hB2⟩
  have zp : (ph == ph') = true:=by simpa using hp
  have HP : Hid (ph = ph'):=hp
  clear hp
  have hsp:=samePush_any a1 c1 m a2 c2 us f b1 d1 m' b2 d2 us' f' W2 (H.hm.below hB2) (H.hu.below hB2) (H'.hm.below hB2) (H'.hu.below hB2) H.nm H.nu
  go_wp2_with fail
  refine hsp.mono ?_
  clear hsp
  rintro e W3 ⟨r3,rfl,q3,hb3⟩
  have hB3:=hB2.trans (hb3.mono hB2.size)
  have Q3 : Hid (r3 = true ↔ (m = m' ∧ us = us' ∧ f = f')):=q3
  clear q3 hb3
  go_wp2
  go_ret
  exact ⟨r3,rfl,⟨fun e=>HQ.out.2 ⟨E1.out,E2.out,HG.out,HP.out,Q3.out.1 e⟩,fun e=>Q3.out.2 (HQ.out.1 e).2.2.2.2⟩,hB3⟩
end

section
open Go.RowKit
set_option maxRecDepth 100000
def Rp.err (r : Rp) : Int:=repE r.s r.l r.g r.ph r.m r.us r.f
structure Rq where
  r : Rp
  aS : Option Addr
  cs : Nat
  al : Option Addr
  cl : Nat
  a1 : Option Addr
  c1 : Nat
  a2 : Option Addr
  c2 : Nat
def Rq.cells (q : Rq) : List Value:=[.slice q.aS q.r.s.length q.cs,.slice q.al q.r.l.length q.cl,.int .i64 q.r.g,.int .i64 q.r.ph,.slice q.a1 q.r.m.length q.c1,.slice q.a2 q.r.us.length q.c2,.bool q.r.f]
def Rq.H (w : World) (q : Rq) : Prop:=RepH w q.aS q.r.s q.al q.r.l q.a1 q.r.m q.a2 q.r.us
theorem Rq.H.below {w w' : World} {q : Rq} (h : q.H w) (hb : Below w.heap.size w w') : q.H w':=RepH.below h hb
structure QAt (w : World) (b o : Nat) (q : Rq) : Prop where
  x0 : w.cell? ⟨b,o,none⟩ = some (.slice q.aS q.r.s.length q.cs)
  x1 : w.cell? ⟨b,o + 1,none⟩ = some (.slice q.al q.r.l.length q.cl)
  x2 : w.cell? ⟨b,o + 2,none⟩ = some (.int .i64 q.r.g)
  x3 : w.cell? ⟨b,o + 3,none⟩ = some (.int .i64 q.r.ph)
  x4 : w.cell? ⟨b,o + 4,none⟩ = some (.slice q.a1 q.r.m.length q.c1)
  x5 : w.cell? ⟨b,o + 5,none⟩ = some (.slice q.a2 q.r.us.length q.c2)
  x6 : w.cell? ⟨b,o + 6,none⟩ = some (.bool q.r.f)
theorem QAt.block {w w' : World} {b o : Nat} {q : Rq} (h : QAt w b o q) (e : w'.heap[b]? = w.heap[b]?) : QAt w' b o q :=
  ⟨(World.cell?_of_block (a:=⟨b,o,none⟩) e).trans h.x0,(World.cell?_of_block (a:=⟨b,o + 1,none⟩) e).trans h.x1,(World.cell?_of_block (a:=⟨b,o + 2,none⟩) e).trans h.x2,(World.cell?_of_block (a:=⟨b,o + 3,none⟩) e).trans h.x3,(World.cell?_of_block (a:=⟨b,o + 4,none⟩) e).trans h.x4,(World.cell?_of_block (a:=⟨b,o + 5,none⟩) e).trans h.x5,(World.cell?_of_block (a:=⟨b,o + 6,none⟩) e).trans h.x6⟩
def HoldsQ (w : World) (a : Option Addr) (l : List Rq) : Prop :=
  ∀ i,i < l.length → ∃ b off,a = some ⟨b,off,none⟩ ∧ b < w.heap.size ∧ ∀ i (h : i < l.length),QAt w b (off + i * 7) l[i] ∧ l[i].H w
theorem HoldsQ.below {w w' : World} {a : Option Addr} {l : List Rq} (h : HoldsQ w a l) (hb : Below w.heap.size w w') : HoldsQ w' a l:=by
  intro i hi
  obtain ⟨b,off,e,hlt,hc⟩:=h i hi
  exact ⟨b,off,e,Nat.lt_of_lt_of_le hlt hb.size,fun j hj=>⟨(hc j hj).1.block (hb.block b hlt),(hc j hj).2.below hb⟩⟩
theorem HoldsQ.drop {w : World} {a : Option Addr} {l : List Rq} {b off k : Nat} (h : HoldsQ w a l) (e : a = some ⟨b,off,none⟩) (hk : k ≤ l.length) : HoldsQ w (some ⟨b,off + k * 7,none⟩) (l.drop k):=by
  intro i hi
  rw [List.length_drop] at hi
  obtain ⟨b',off',e',hlt,hc⟩:=h (k + i) (by omega)
  rw [e] at e';cases e'
  refine ⟨b,off + k * 7,rfl,hlt,fun j hj=>?_⟩
  rw [List.length_drop] at hj
  have:=hc (k + j) (by omega)
  rw [List.getElem_drop,show off + k * 7 + j * 7 = off + (k + j) * 7 by omega]
  exact this
def bestTo (gs : List Int) : Nat → Nat
  | 0=>0
  | k + 1=>if gs.getD (bestTo gs k) 0 < gs.getD k 0 then k else bestTo gs k
theorem bestTo_lt (gs : List Int) (k n : Nat) (hn : 0 < n) (hk : k ≤ n) : bestTo gs k < n:=by
  induction k with
  | zero=>exact hn
  | succ k ih=>unfold bestTo;split;omega;exact ih (by omega)
abbrev gsOf (l : List Rq) : List Int:=l.map (fun q=>q.r.g)
theorem gs_at {l : List Rq} {k : Nat} (hk : k < l.length) : (gsOf l).getD k 0 = l[k].r.g:=by simp [gsOf,hk]
set_option maxHeartbeats 1000000 in
theorem newest_any (a : Option Addr) (c : Nat) (l : List Rq) (w : World) (h : HoldsQ w a l) (hl : l.length ≤ 9223372036854775807) :
    Calls Tryz.prog 54 #[.slice a l.length c] w fun e w'=>e = .returned (.int .i64 (bestTo (gsOf l) l.length)) ∧ Below w.heap.size w w':=by
  go_enter Tryz.func54,Tryz.ntmps54
  go_wp2
  go_loopw [3,8] (fun o i wr=>∃ k at0 : Nat,i = .int .i64 k ∧ o = .int .i64 at0 ∧ k ≤ l.length ∧ Hid (at0 = bestTo (gsOf l) k) ∧ Below w.heap.size w wr) (fun _ i _=>l.length - (intOf i).toNat)
  case atStart=>exact ⟨0,0,rfl,rfl,Nat.zero_le _,rfl,Below.refl _ _⟩
  case round =>
    obtain ⟨k,at0,rfl,rfl,hk,HA,hB⟩:=hrel
    by_cases hlt : k < l.length
    · have hlt' : (k : Int) < (l.length : Int) := by omega
      have ha0 : at0 < l.length:=by have:=HA.out;have:=bestTo_lt (gsOf l) k l.length (by omega) hk;omega
      have ha1 : (at0 : Int) < (l.length : Int):=by omega
      obtain ⟨b,off,rfl,hb,hc⟩:=(h.below hB) k hlt
      have HG1 : Hid ((gsOf l).getD k 0 = l[k].r.g):=gs_at hlt
      have HG2 : Hid ((gsOf l).getD at0 0 = l[at0].r.g):=gs_at ha0
      obtain ⟨⟨x0,x1,x2,x3,x4,x5,x6⟩,_⟩:=hc k hlt
      have hA:=below_alloc wr (RB l[k].aS l[k].cs l[k].r.s l[k].al l[k].cl l[k].r.l l[k].r.g l[k].r.ph l[k].a1 l[k].c1 l[k].r.m l[k].a2 l[k].c2 l[k].r.us l[k].r.f)
      have hnew:=heap_alloc_new wr (RB l[k].aS l[k].cs l[k].r.s l[k].al l[k].cl l[k].r.l l[k].r.g l[k].r.ph l[k].a1 l[k].c1 l[k].r.m l[k].a2 l[k].c2 l[k].r.us l[k].r.f)
      have y2:=(hA.cell (p:=⟨b,off + at0 * 7 + 2,none⟩) hb).trans (hc at0 ha0).1.x2
      obtain ⟨z0,z1,z2,z3,z4,z5,z6⟩:=c7_of hnew
      have hBA:=hB.trans (hA.mono hB.size)
      clear hc hnew h
      by_cases hq : l[at0].r.g < l[k].r.g
      · have HN : Hid (k = bestTo (gsOf l) (k + 1)) := by unfold Hid; rw [bestTo, ← HA.out, HG1.out, HG2.out, if_pos hq]
        go_wp2_with fail
        go_region
        go_wp2
        go_roundw
        case rel=>exact ⟨k + 1,k,by go_num,rfl,by omega,HN,hBA.trans ((Below.refl _ _).drew.mono hBA.size)⟩
        case measure=>simp [intOf];omega
      · have HN : Hid (at0 = bestTo (gsOf l) (k + 1)) := by unfold Hid; rw [bestTo, ← HA.out, HG1.out, HG2.out, if_neg hq]
        go_wp2_with fail
        go_region
        go_wp2
        go_roundw
        case rel=>exact ⟨k + 1,at0,by go_num,rfl,by omega,HN,hBA.trans ((Below.refl _ _).drew.mono hBA.size)⟩
        case measure=>simp [intOf];omega
    · have hkl : k = l.length := by omega
      subst hkl
      have HN : Hid ((at0 : Int) = (bestTo (gsOf l) l.length : Nat)):=by unfold Hid;rw [HA.out]
      go_wp2
      go_ret
      exact ⟨ret_int HN.out,hB⟩
end

section
open Go.RowKit
set_option maxRecDepth 100000
def unl (a b : Rp) : Prop:=a.g = b.g ∧ ¬ a.l = b.l
abbrev Rq.blk (q : Rq) : Obj:=RB q.aS q.cs q.r.s q.al q.cl q.r.l q.r.g q.r.ph q.a1 q.c1 q.r.m q.a2 q.c2 q.r.us q.r.f
abbrev Rq.val (q : Rq) : Value:=RV q.aS q.cs q.r.s q.al q.cl q.r.l q.r.g q.r.ph q.a1 q.c1 q.r.m q.a2 q.c2 q.r.us q.r.f
set_option maxHeartbeats 1000000 in
theorem unlike1_any (q0 q : Rq) (p : Nat) (w : World) (hk : w.heap[p]? = some q0.blk) (h0 : q0.H w) (h : q.H w) :
    Calls Tryz.prog 102 #[q.val,.pointer (some ⟨p,0,none⟩)] w fun e w'=>∃ r,e = .returned (.bool r) ∧ (r = true ↔ unl q0.r q.r) ∧ Below w.heap.size w w':=by
  have hA:=below_alloc w q.blk
  have hk2:=heap_alloc_new w q.blk
  have hk1:=(hA.block _ (heap_lt hk)).trans hk
  obtain ⟨y0,y1,y2,y3,y4,y5,y6⟩:=c7_of hk1
  obtain ⟨z0,z1,z2,z3,z4,z5,z6⟩:=c7_of hk2
  have heq:=equalRefs_any q0.al q0.cl q0.r.l q.al q.cl q.r.l _ (h0.hl.below hA) (h.hl.below hA) h0.nl
  by_cases hg : q0.r.g = q.r.g
  case neg =>
    have zg : (q0.r.g == q.r.g) = false:=by simpa using hg
    have HG : Hid (¬ q0.r.g = q.r.g):=hg
    clear hg heq
    go_enter Tryz.func102,Tryz.ntmps102
    go_wp2
    go_ret
    exact ⟨false,rfl,⟨fun e=>(by cases e),fun e=>absurd e.1 HG.out⟩,hA⟩
  have zg : (q0.r.g == q.r.g) = true:=by simpa using hg
  have HG : Hid (q0.r.g = q.r.g):=hg
  clear hg
  go_enter Tryz.func102,Tryz.ntmps102
  go_wp2_with fail
  refine heq.mono ?_
  clear heq
  rintro e w1 ⟨r,rfl,hr,hb1⟩
  have hB1:=hA.trans (hb1.mono hA.size)
  have HR : Hid (r = true ↔ q0.r.l = q.r.l):=hr
  clear hr hb1
  go_wp2
  go_ret
  exact ⟨!r,rfl,⟨fun e=>⟨HG.out,fun q=>by rw [HR.out.2 q] at e;cases e⟩,fun e=>by cases hr : r with | false=>rfl | true=>exact absurd (HR.out.1 hr) e.2⟩,hB1⟩
set_option maxHeartbeats 1000000 in
theorem indexUnl_any (q0 : Rq) (p : Nat) (a : Option Addr) (c : Nat) (l : List Rq) (w : World) (h : HoldsQ w a l) (hl : l.length ≤ 9223372036854775807) (hk : w.heap[p]? = some q0.blk) (h0 : q0.H w) :
    Calls Tryz.prog 168 #[.slice a l.length c,.func (.func 102) #[] #[.pointer (some ⟨p,0,none⟩)]] w fun e w'=>∃ i,e = .returned (.int .i64 i) ∧ (0 ≤ i ↔ ∃ j,∃ hj : j < l.length,unl q0.r l[j].r) ∧ Below w.heap.size w w':=by
  go_enter Tryz.func168,Tryz.ntmps168
  go_wp2
  go_loopw [8] (fun i wr=>∃ k : Nat,i = .int .i64 k ∧ k ≤ l.length ∧ Below w.heap.size w wr ∧ Hid (∀ j (hj : j < l.length),j < k → ¬ unl q0.r l[j].r)) (fun i _=>l.length - (intOf i).toNat)
  case atStart=>exact ⟨0,rfl,Nat.zero_le _,Below.refl _ _,fun j _ h=>absurd h (Nat.not_lt_zero j)⟩
  case round =>
    obtain ⟨k,rfl,hkl,hB,H⟩:=hrel
    by_cases hlt : k < l.length
    · obtain ⟨b, off, rfl, hb, hc⟩ := (h.below hB) k hlt
      obtain ⟨⟨x0,x1,x2,x3,x4,x5,x6⟩,hH⟩:=hc k hlt
      have hcl:=unlike1_any q0 l[k] p wr ((hB.block _ (heap_lt hk)).trans hk) (h0.below hB) hH
      clear hc
      go_wp2_with fail
      refine hcl.mono ?_
      clear hcl
      rintro e w1 ⟨r,rfl,hr,hb1⟩
      have hB1:=hB.trans (hb1.mono hB.size)
      clear hb1 x0 x1 x2 x3 x4 x5 x6
      cases r with
      | true =>
        have HR : Hid (∃ j,∃ hj : j < l.length,unl q0.r l[j].r):=⟨k,hlt,hr.1 rfl⟩
        clear hr
        go_wp2
        go_ret
        exact ⟨_,rfl,⟨fun _=>HR.out,fun _=>by omega⟩,hB1⟩
      | false =>
        have HN : Hid (∀ j (hj : j < l.length),j < k + 1 → ¬ unl q0.r l[j].r):=fun j hj hjk=>by
          rcases Nat.lt_or_ge j k with h1 | h1
          · exact H.out j hj h1
          · have : j = k := by omega
            subst this
            exact fun q=>by cases hr.2 q
        clear hr
        go_wp2
        go_roundw
        case rel=>exact ⟨k + 1,by go_num,by omega,hB1,HN⟩
        case measure=>simp [intOf];omega
    · have HR : Hid (¬ ∃ j, ∃ hj : j < l.length, unl q0.r l[j].r) := fun ⟨j, hj, q⟩ => H.out j hj (by omega) q
      go_wp2
      go_ret
      exact ⟨-1,rfl,⟨fun e=>by omega,fun e=>absurd e HR.out⟩,hB⟩
set_option maxHeartbeats 1000000 in
theorem containsUnl_any (q0 : Rq) (p : Nat) (a : Option Addr) (c : Nat) (l : List Rq) (w : World) (h : HoldsQ w a l) (hl : l.length ≤ 9223372036854775807) (hk : w.heap[p]? = some q0.blk) (h0 : q0.H w) :
    Calls Tryz.prog 101 #[.slice a l.length c,.func (.func 102) #[] #[.pointer (some ⟨p,0,none⟩)]] w fun e w'=>∃ r,e = .returned (.bool r) ∧ (r = true ↔ ∃ j,∃ hj : j < l.length,unl q0.r l[j].r) ∧ Below w.heap.size w w':=by
  go_enter Tryz.func101,Tryz.ntmps101
  go_wp2_with fail
  refine (indexUnl_any q0 p a c l w h hl hk h0).mono ?_
  rintro e w1 ⟨i,rfl,hi,hb1⟩
  have HI : Hid (0 ≤ i ↔ ∃ j,∃ hj : j < l.length,unl q0.r l[j].r):=hi
  clear hi
  go_wp2
  go_ret
  exact ⟨_,rfl,by rw [decide_eq_true_eq];exact HI.out,hb1⟩
set_option maxHeartbeats 2000000 in
theorem anyUnl_any (a : Option Addr) (c : Nat) (l : List Rq) (w : World) (h : HoldsQ w a l) (hl : l.length ≤ 1000) (hcl : l.length ≤ c) (hcm : c ≤ 9223372036854775807) :
    Calls Tryz.prog 53 #[.slice a l.length c] w fun e w'=>∃ r,e = .returned (.bool r) ∧ (r = true ↔ ∃ i j,∃ hi : i < l.length,∃ hj : j < l.length,i < j ∧ unl l[i].r l[j].r) ∧ Below w.heap.size w w':=by
  go_enter Tryz.func53,Tryz.ntmps53
  go_wp2
  go_loopw [7] (fun i wr=>∃ k : Nat,i = .int .i64 k ∧ k ≤ l.length ∧ Below w.heap.size w wr ∧ Hid (∀ i j (hi : i < l.length) (hj : j < l.length),i < k → i < j → ¬ unl l[i].r l[j].r)) (fun i _=>l.length - (intOf i).toNat)
  case atStart=>exact ⟨0,rfl,Nat.zero_le _,Below.refl _ _,fun i _ _ _ h=>absurd h (Nat.not_lt_zero i)⟩
  case round =>
    obtain ⟨k,rfl,hkl,hB,H⟩:=hrel
    by_cases hlt : k < l.length
    · obtain ⟨b, off, rfl, hb, hc⟩ := (h.below hB) k hlt
      obtain ⟨⟨x0,x1,x2,x3,x4,x5,x6⟩,hH⟩:=hc k hlt
      have hA:=below_alloc wr l[k].blk
      have hnew:=heap_alloc_new wr l[k].blk
      have hBA:=hB.trans (hA.mono hB.size)
      have hD:=HoldsQ.drop (k:=k + 1) (h.below hBA) rfl (by omega)
      have hcu : ∀ ad cc,HoldsQ (wr.alloc l[k].blk) ad (l.drop (k + 1)) → Calls Tryz.prog 101 #[.slice ad (l.length - (k + 1)) cc,.func (.func 102) #[] #[.pointer (some ⟨wr.heap.size,0,none⟩)]] (wr.alloc l[k].blk)
          (fun e w'=>∃ r,e = .returned (.bool r) ∧ (r = true ↔ ∃ j,∃ hj : j < l.length,k < j ∧ unl l[k].r l[j].r) ∧ Below (wr.alloc l[k].blk).heap.size (wr.alloc l[k].blk) w'):=fun ad cc hD=>by
        have q:=containsUnl_any l[k] wr.heap.size ad cc (l.drop (k + 1)) _ hD (by rw [List.length_drop];omega) hnew (hH.below hA)
        have q2:=q.mono (R':=fun e w'=>∃ r,e = .returned (.bool r) ∧ (r = true ↔ ∃ j,∃ hj : j < l.length,k < j ∧ unl l[k].r l[j].r) ∧ Below (wr.alloc l[k].blk).heap.size (wr.alloc l[k].blk) w') (by
          rintro e w1 ⟨r,he,hr,hb⟩
          refine ⟨r,he,hr.trans ⟨?_,?_⟩,hb⟩
          · rintro ⟨j, hj, q⟩
            rw [List.length_drop] at hj
            rw [List.getElem_drop] at q
            exact ⟨k + 1 + j,by omega,by omega,q⟩
          · rintro ⟨j, hj, hkj, q⟩
            refine ⟨j - (k + 1),by rw [List.length_drop];omega,?_⟩
            rw [List.getElem_drop]
            have e : k + 1 + (j - (k + 1)) = j:=by omega
            simpa only [e] using q)
        rw [List.length_drop] at q2
        exact q2
      have hE : c = k + 1 → HoldsQ (wr.alloc l[k].blk) (some ⟨b,off,none⟩) (l.drop (k + 1)):=fun e i hi=>by rw [List.length_drop] at hi;omega
      clear hc hnew
      by_cases hck : c = k + 1
      · have hE' := hE hck
        clear hE hD
        subst hck
        go_wp2_with fail
        have hcu2:=hcu (some ⟨b,off,none⟩) 0 hE'
        rw [show l.length - (k + 1) = 0 by omega] at hcu2
        clear hcu hE'
        refine hcu2.mono ?_
        clear hcu2
        rintro e w1 ⟨r,rfl,hr,hb1⟩
        have hB1:=hBA.trans (hb1.mono hBA.size)
        clear hb1 x0 x1 x2 x3 x4 x5 x6
        cases r with
        | true =>
          have HR : Hid (∃ i j,∃ hi : i < l.length,∃ hj : j < l.length,i < j ∧ unl l[i].r l[j].r):=by
            obtain ⟨j,hj,h1,h2⟩:=hr.1 rfl
            exact ⟨k,j,hlt,hj,h1,h2⟩
          clear hr
          go_wp2
          go_ret
          exact ⟨true,rfl,⟨fun _=>HR.out,fun _=>rfl⟩,hB1⟩
        | false =>
          have HN : Hid (∀ i j (hi : i < l.length) (hj : j < l.length),i < k + 1 → i < j → ¬ unl l[i].r l[j].r):=fun i j hi hj hik hij q=>by
            rcases Nat.lt_or_ge i k with h1 | h1
            · exact H.out i j hi hj h1 hij q
            · have : i = k := by omega
              subst this
              cases hr.2 ⟨j,hj,hij,q⟩
          clear hr
          go_wp2
          go_roundw
          case rel=>exact ⟨k + 1,by go_num,by omega,hB1,HN⟩
          case measure=>simp [intOf];omega
      · clear hE
        go_wp2_with fail
        have hcu2:=hcu (some ⟨b,off + (k + 1) * 7,none⟩) (c - (k + 1)) hD
        clear hcu hD
        refine hcu2.mono ?_
        clear hcu2
        rintro e w1 ⟨r,rfl,hr,hb1⟩
        have hB1:=hBA.trans (hb1.mono hBA.size)
        clear hb1 x0 x1 x2 x3 x4 x5 x6
        cases r with
        | true =>
          have HR : Hid (∃ i j,∃ hi : i < l.length,∃ hj : j < l.length,i < j ∧ unl l[i].r l[j].r):=by
            obtain ⟨j,hj,h1,h2⟩:=hr.1 rfl
            exact ⟨k,j,hlt,hj,h1,h2⟩
          clear hr
          go_wp2
          go_ret
          exact ⟨true,rfl,⟨fun _=>HR.out,fun _=>rfl⟩,hB1⟩
        | false =>
          have HN : Hid (∀ i j (hi : i < l.length) (hj : j < l.length),i < k + 1 → i < j → ¬ unl l[i].r l[j].r):=fun i j hi hj hik hij q=>by
            rcases Nat.lt_or_ge i k with h1 | h1
            · exact H.out i j hi hj h1 hij q
            · have : i = k := by omega
              subst this
              cases hr.2 ⟨j,hj,hij,q⟩
          clear hr
          go_wp2
          go_roundw
          case rel=>exact ⟨k + 1,by go_num,by omega,hB1,HN⟩
          case measure=>simp [intOf];omega
    · have HR : Hid (¬ ∃ i j, ∃ hi : i < l.length, ∃ hj : j < l.length, i < j ∧ unl l[i].r l[j].r) := fun ⟨i, j, hi, hj, hij, q⟩ => H.out i j hi hj (by omega) hij q
      go_wp2
      go_ret
      exact ⟨false,rfl,⟨fun e=>(by cases e),fun e=>absurd e HR.out⟩,hB⟩
end

section
open Go.RowKit
set_option maxRecDepth 100000
def cntTo (d : Nat → Bool) : Nat → Nat
  | 0=>0
  | k + 1=>cntTo d k + (d k).toNat
theorem cntTo_le (d : Nat → Bool) (k : Nat) : cntTo d k ≤ k:=by
  induction k with
  | zero=>exact Nat.le_refl _
  | succ k ih => unfold cntTo; have : (d k).toNat ≤ 1 := by cases d k <;> decide
                 omega
set_option maxHeartbeats 1000000 in
theorem mostCheck (a : Option Addr) (c n : Nat) (p q : Nat) (d : Nat → Bool) (w : World) (hn : n ≤ 1000)
    (hcl : ∀ i W,i < n → Below w.heap.size w W → Calls Tryz.prog 55 #[.int .i64 i,.pointer (some ⟨p,0,none⟩),.pointer (some ⟨q,0,none⟩)] W (fun e w'=>e = .returned (.bool (d i)) ∧ Below W.heap.size W w')) :
    Calls Tryz.prog 49 #[.slice a n c,.func (.func 55) #[] #[.pointer (some ⟨p,0,none⟩),.pointer (some ⟨q,0,none⟩)]] w fun e w'=>e = .returned (.bool (decide (n < 2 * cntTo d n))) ∧ Below w.heap.size w w':=by
  go_enter Tryz.func49,Tryz.ntmps49
  go_wp2
  go_loopw [5,9] (fun o i wr=>∃ k m : Nat,i = .int .i64 k ∧ o = .int .i64 m ∧ k ≤ n ∧ Hid (m = cntTo d k) ∧ Below w.heap.size w wr) (fun _ i _=>n - (intOf i).toNat)
  case atStart=>exact ⟨0,0,rfl,rfl,Nat.zero_le _,rfl,Below.refl _ _⟩
  case round =>
    obtain ⟨k,m,rfl,rfl,hk,HM,hB⟩:=hrel
    have hm : m ≤ 1000:=by have:=HM.out;have:=cntTo_le d k;omega
    by_cases hlt : k < n
    · have hc := hcl k wr hlt hB
      go_wp2_with fail
      refine hc.mono ?_
      clear hc
      rintro e w1 ⟨rfl,hb1⟩
      have hB1:=hB.trans (hb1.mono hB.size)
      clear hb1
      cases hd : d k with
      | true =>
        have HN : Hid (m + 1 = cntTo d (k + 1)):=by unfold Hid;rw [cntTo,HM.out,hd];rfl
        clear hd
        go_wp2
        go_roundw
        case rel=>exact ⟨k + 1,m + 1,by go_num,by go_num,by omega,HN,hB1⟩
        case measure=>simp [intOf];omega
      | false =>
        have HN : Hid (m = cntTo d (k + 1)):=by unfold Hid;rw [cntTo,HM.out,hd];rfl
        clear hd
        go_wp2
        go_roundw
        case rel=>exact ⟨k + 1,m,by go_num,rfl,by omega,HN,hB1⟩
        case measure=>simp [intOf];omega
    · have hkn : k = n := by omega
      subst hkn
      have HN : Hid (decide ((k : Int) < 2 * (m : Int)) = decide (k < 2 * cntTo d k)):=by unfold Hid;rw [← HM.out];exact decide_eq_decide.2 (by omega)
      go_wp2
      go_ret
      exact ⟨ret_bool HN.out,hB⟩
set_option maxHeartbeats 1000000 in
theorem mostWould (a : Option Addr) (c n : Nat) (p1 p2 p3 p4 : Nat) (d : Nat → Bool) (w : World) (hn : n ≤ 1000)
    (hcl : ∀ i W,i < n → Below w.heap.size w W → Calls Tryz.prog 47 #[.int .i64 i,.pointer (some ⟨p1,0,none⟩),.pointer (some ⟨p2,0,none⟩),.pointer (some ⟨p3,0,none⟩),.pointer (some ⟨p4,0,none⟩)] W (fun e w'=>e = .returned (.bool (d i)) ∧ Below W.heap.size W w')) :
    Calls Tryz.prog 49 #[.slice a n c,.func (.func 47) #[] #[.pointer (some ⟨p1,0,none⟩),.pointer (some ⟨p2,0,none⟩),.pointer (some ⟨p3,0,none⟩),.pointer (some ⟨p4,0,none⟩)]] w fun e w'=>e = .returned (.bool (decide (n < 2 * cntTo d n))) ∧ Below w.heap.size w w':=by
  go_enter Tryz.func49,Tryz.ntmps49
  go_wp2
  go_loopw [5,9] (fun o i wr=>∃ k m : Nat,i = .int .i64 k ∧ o = .int .i64 m ∧ k ≤ n ∧ Hid (m = cntTo d k) ∧ Below w.heap.size w wr) (fun _ i _=>n - (intOf i).toNat)
  case atStart=>exact ⟨0,0,rfl,rfl,Nat.zero_le _,rfl,Below.refl _ _⟩
  case round =>
    obtain ⟨k,m,rfl,rfl,hk,HM,hB⟩:=hrel
    have hm : m ≤ 1000:=by have:=HM.out;have:=cntTo_le d k;omega
    by_cases hlt : k < n
    · have hc := hcl k wr hlt hB
      go_wp2_with fail
      refine hc.mono ?_
      clear hc
      rintro e w1 ⟨rfl,hb1⟩
      have hB1:=hB.trans (hb1.mono hB.size)
      clear hb1
      cases hd : d k with
      | true =>
        have HN : Hid (m + 1 = cntTo d (k + 1)):=by unfold Hid;rw [cntTo,HM.out,hd];rfl
        clear hd
        go_wp2
        go_roundw
        case rel=>exact ⟨k + 1,m + 1,by go_num,by go_num,by omega,HN,hB1⟩
        case measure=>simp [intOf];omega
      | false =>
        have HN : Hid (m = cntTo d (k + 1)):=by unfold Hid;rw [cntTo,HM.out,hd];rfl
        clear hd
        go_wp2
        go_roundw
        case rel=>exact ⟨k + 1,m,by go_num,rfl,by omega,HN,hB1⟩
        case measure=>simp [intOf];omega
    · have hkn : k = n := by omega
      subst hkn
      have HN : Hid (decide ((k : Int) < 2 * (m : Int)) = decide (k < 2 * cntTo d k)):=by unfold Hid;rw [← HM.out];exact decide_eq_decide.2 (by omega)
      go_wp2
      go_ret
      exact ⟨ret_bool HN.out,hB⟩
theorem isGreatest_any (a : Option Addr) (c : Nat) (l : List Rq) (p q k : Nat) (g : Int) (w : World) (h : HoldsQ w a l) (hk : k < l.length) (hp : w.heap[p]? = some (.cells #[.slice a l.length c] 24)) (hq : w.heap[q]? = some (.cells #[.int .i64 g] 3)) :
    Calls Tryz.prog 55 #[.int .i64 k,.pointer (some ⟨p,0,none⟩),.pointer (some ⟨q,0,none⟩)] w fun e w'=>e = .returned (.bool (l[k].r.g == g)) ∧ Below w.heap.size w w':=by
  obtain ⟨b,off,rfl,hb,hc⟩:=h k hk
  have x2:=(hc k hk).1.x2
  have y0 : w.cell? ⟨p,0,none⟩ = some (.slice (some ⟨b,off,none⟩) l.length c):=by rw [cell_of_row w _ _ _ _ _ hp];rfl
  have z0 : w.cell? ⟨q,0,none⟩ = some (.int .i64 g):=by rw [cell_of_row w _ _ _ _ _ hq];rfl
  have hk' : (k : Int) < (l.length : Int):=by omega
  clear hc h
  go_enter Tryz.func55,Tryz.ntmps55
  go_wp2_with fail
  go_region
  go_wp2
  go_ret
  exact ⟨rfl,(Below.refl _ _).drew⟩
theorem areBits_any (n : Int) (w : World) : Calls Tryz.prog 95 #[.int .i64 n] w fun e w'=>e = .returned (.bool (decide (0 ≤ n) && decide (n < 8))) ∧ Below w.heap.size w w':=by
  by_cases h0 : 0 ≤ n
  · have HR : Hid (decide (n < 8) = (decide (0 ≤ n) && decide (n < 8))) := by simp [Hid, h0]
    go_enter Tryz.func95,Tryz.ntmps95
    go_wp2
    go_ret
    exact ⟨ret_bool HR.out,Below.refl _ _⟩
  · have HR : Hid (false = (decide (0 ≤ n) && decide (n < 8))) := by simp [Hid, h0]
    go_enter Tryz.func95,Tryz.ntmps95
    go_wp2
    go_ret
    exact ⟨ret_bool HR.out,Below.refl _ _⟩
def bitB (n : Int) (i : Nat) : Bool:=n.toNat.testBit i
theorem hasBit_any (n : Int) (i : Nat) (w : World) (h0 : 0 ≤ n) (h1 : n < 8) (hi : i < 3) : Calls Tryz.prog 48 #[.int .i64 n,.int .i64 i] w fun e w'=>e = .returned (.bool (bitB n i)) ∧ Below w.heap.size w w':=by
  have hn : n = 0 ∨ n = 1 ∨ n = 2 ∨ n = 3 ∨ n = 4 ∨ n = 5 ∨ n = 6 ∨ n = 7:=by omega
  have hj : i = 0 ∨ i = 1 ∨ i = 2:=by omega
  rcases hn with rfl | rfl | rfl | rfl | rfl | rfl | rfl | rfl <;> rcases hj with rfl | rfl | rfl
  all_goals
    go_enter Tryz.func48,Tryz.ntmps48
    go_wp2
    go_ret
    exact ⟨rfl,Below.refl _ _⟩
end
end Go.Proofs.YtehmlpkapjdhkaaGreatDoor
